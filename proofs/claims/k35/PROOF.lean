import PyProof.Rows.All
import Wide.All
import OpenK.AllK
import Wide.FinOn
import KE.KExcIs
import HandS.ForMost
import HandS.Exc
import HandS.ExcInit
import HandS.ExcOwn
import HandS.ExcValue
import HandS.ExcField
import HandS.ExcIs
import HandS.IsInst
import HandS.WordsExc
import HandS.Defaults
import HandS.HeadHook1
import HandS.HeadHook2
import HandS.Head0
import HandS.Head1
import HandS.Head2
import HandS.HeadEnd
import HandS.HeadHook4
import KE.KOpsOwn
import PyProof.ListMulRight
import PyProof.FactsAll.int_3
import PyProof.FactsAll.int_5
import HandS.Star
import HandS.Gcd
import HandS.Wide
import HandS.SlotsOwn
import PyProof.InstNe
import HandS.TryMany
import HandS.MakeKwOnly
import HandS.CallSlots
import HandS.SetFor
import HandS.Strs
import HandS.SetTxt0
import PyProof.Rows.SortShellAny
import HandS.Comp
import HandS.Iter
import HandS.Head3
import HandS.Walk
import KE.GoesEnum
import HandS.Conv
import HandS.SortInts
import HandS.More
import HandS.Style
import HandS.Lambda
import HandS.Deep
import HandS.SortKw
import HandS.List
import PyProof.WalkInts
import HandS.EndTab
import KE.KNest
import PySem.Challenge.RW_loopsize_k35_next_and_last_works_of_a_st
set_option Elab.async false
set_option linter.all false
set_option maxRecDepth 100000
set_option maxHeartbeats 4000000
namespace Z
open PySem PySem.Spec PyProof.Rows L2
end Z
set_option maxHeartbeats 4000000
namespace Z
open PySem PySem.Spec PyProof.Rows L2
abbrev FaK : Type := PySem.W.Frag → Bool
def obsX (fa : List FaK) (fn : List He.DefD) (K : PySem.W.Frag) : He.AlD := ((fa.all fun f => f K) && fn.all fun d => d.ok K, fn.map fun d => He.fnW K d.at_)
def SaysX (fa : List FaK) (fn : List He.DefD) (K : PySem.W.Frag) : Prop := obsX fa fn K = He.valD fn
section
variable {fa : List FaK} {fn : List He.DefD} {K : PySem.W.Frag}
theorem SaysX.fact (c : SaysX fa fn K) (i : Nat) {f : FaK} (h : fa[i]? = some f := by rfl) : f K = true := by
  have c1 := (He.ba (show ((fa.all fun f => f K) && fn.all fun d => d.ok K) = true from congrArg (fun z : He.AlD => z.1) c)).1
  exact List.all_eq_true.mp c1 f (List.mem_of_getElem? h)
theorem SaysX.def_ (c : SaysX fa fn K) (i : Nat) {d : He.DefD} (h : fn[i]? = some d := by rfl) : ∃ fd, FunD K d.name d.qual d.params d.body d.scope (d.dvs K) (d.kws K) (He.fAd K d.at_) fd := by
  have c2 := (He.ba (show ((fa.all fun f => f K) && fn.all fun d => d.ok K) = true from congrArg (fun z : He.AlD => z.1) c)).2
  have e : fn.map (fun d => He.fnW K d.at_) = fn.map He.DefD.val := congrArg (fun z : He.AlD => z.2) c
  have e2 : (fn.map fun d => He.fnW K d.at_)[i]? = (fn.map He.DefD.val)[i]? := by rw [e]
  rw [List.getElem?_map, List.getElem?_map, h] at e2
  exact He.DefD.funD (Option.some.inj e2) (List.all_eq_true.mp c2 d (List.mem_of_getElem? h))
end
def oexB (K : PySem.W.Frag) (C : Addr) : Bool := match K.lookup C with
  | some ⟨.type t, _, .cls cd, sl⟩ => decide (t = "type") && (match cd.mro, sl.toList with
    | .ref C' :: bm, [_, _, _, _, some (.builtin n), _] => decide (C' = C) && (decide (n = "ValueError.__new__") && (!cd.hasDel && (cd.hasDict && PySem.HandSPX.refsVE bm)))
    | _, _ => false)
  | _ => false
theorem oexB_ok {K : PySem.W.Frag} {C : Addr} (q : oexB K C = true) : ∃ nm q N bs bm sn sub ab col dd k0 k1 k2 k3 k5, K.lookup C = some (excClassObj nm q C N bs bm true sn sub ab col dd k0 k1 k2 k3 k5 "ValueError.__new__") ∧ PySem.HandSPX.refsVE bm = true := by
  unfold oexB at q
  split at q
  · rename_i t dd cd sl ho
    split at q
    · rename_i C' bm k0 k1 k2 k3 n k5 hm hs
      obtain ⟨q0, q⟩ := He.ba q
      obtain ⟨q1, q⟩ := He.ba q
      obtain ⟨q2, q⟩ := He.ba q
      obtain ⟨q3, q⟩ := He.ba q
      obtain ⟨q4, q5⟩ := He.ba q
      have e0 := of_decide_eq_true q0
      have e1 := of_decide_eq_true q1
      have e2 := of_decide_eq_true q2
      obtain ⟨nm, bs, mro, ns, qn, hd, sn, sub, ab, col, del⟩ := cd
      dsimp only at hm q3 q4
      have e3 : del = false := by
        cases del
        · rfl
        · cases q3
      subst hm e3 q4
      have hsl : sl = #[k0, k1, k2, k3, some (.builtin n), k5] := by
        obtain ⟨l⟩ := sl
        simp only at hs
        rw [hs]
      subst hsl
      rw [e0, e1, e2] at ho
      exact ⟨nm, qn, ns, bs, bm, sn, sub, ab, col, dd, k0, k1, k2, k3, k5, ho, q5⟩
    · obtain ⟨_, q⟩ := He.ba q
      cases q
  · cases q
/-- all that is asked of an exception class -/
def exkB (K : PySem.W.Frag) (C : Addr) : Bool :=
  He.eqO (PySem.W.findIn K (.ref C) "__setattr__") (some (some (.builtin "object.__setattr__"))) &&
  (decide (PySem.W.subIn K (.ref C) (.type "BaseException") = some true) &&
  (decide (PySem.W.typeIn K (.ref C) = some (.type "type")) &&
  (PySem.W.keepIn K (.ref C) &&
  (He.eqO (PySem.W.findIn K (.ref C) "__getattribute__") (some (some (.builtin "BaseException.__getattribute__"))) &&
  (He.eqO (PySem.W.findIn K (.ref C) "__getattr__") (some none) &&
  (PySem.W.hasDictIn K C &&
  (He.eqO (PySem.W.findIn K (.ref C) "__class__") (some (some (.builtin "object.__class__"))) &&
  (He.eqO (PySem.W.specialIn K (.builtin "object.__class__") "__get__") (some (some (.builtin "getset_descriptor.__get__"))) &&
  (decide (PySem.W.takesIn K (.builtin "object.__class__") = some true) &&
  decide (PySem.W.mroIn K C (.type "object") = some true))))))))))
structure Exk (K : PySem.W.Frag) (C : Addr) : Prop where
  sa : PySem.W.findIn K (.ref C) "__setattr__" = some (some (.builtin "object.__setattr__"))
  exC : PySem.W.subIn K (.ref C) (.type "BaseException") = some true
  tyC : PySem.W.typeIn K (.ref C) = some (.type "type")
  kC : PySem.W.keepIn K (.ref C) = true
  xf : XfC K C
  ec : ExcC K C
theorem exkB_ok {K : PySem.W.Frag} {C : Addr} (q : exkB K C = true) : Exk K C := by
  unfold exkB at q
  obtain ⟨h1, q⟩ := He.ba q
  obtain ⟨h2, q⟩ := He.ba q
  obtain ⟨h3, q⟩ := He.ba q
  obtain ⟨h4, q⟩ := He.ba q
  obtain ⟨h5, q⟩ := He.ba q
  obtain ⟨h6, q⟩ := He.ba q
  obtain ⟨h7, q⟩ := He.ba q
  obtain ⟨h8, q⟩ := He.ba q
  obtain ⟨h9, q⟩ := He.ba q
  obtain ⟨h10, h11⟩ := He.ba q
  have e2 := of_decide_eq_true h2
  exact ⟨He.eqO_ok h1, e2, of_decide_eq_true h3, h4, ⟨He.eqO_ok h5, He.eqO_ok h6, e2, h7⟩, ⟨He.eqO_ok h5, He.eqO_ok h6, e2, h7, He.eqO_ok h8, He.eqO_ok h9, of_decide_eq_true h10, of_decide_eq_true h11⟩⟩
theorem oex_of {K : PySem.W.Frag} {C : Addr} (q : oexB K C = true) (e : Exk K C) : OexC K C := ⟨oexB_ok q, e.sa, e.exC, e.tyC, e.kC⟩
def Dn (P : Program) (w : World) (K : PySem.W.Frag) (mg : Str → Option Value) (base : Heap) (j : Nat) (x : Str) (ps : List Str) (sp : Sp) : Prop :=
  ∃ (f : Addr) (fd : FuncData), FnOk P w K mg base CX0 j f fd ps sp ∧ mg x = some (.ref f) ∧ PySem.W.keepIn K (.ref f) = true ∧ Binds K fd ps []
section
variable {X : Cx} {e : Expr} {es : List Expr} {t : TA} {p pos : Pos}
theorem pe_dn {k j : Nat} {x : Str} {ps : List Str} {sp : Sp} (D : Dn X.prog X.w X.K X.mg X.base j x ps sp) (hr : Room k X.A) (ha : PA X (e :: es) t) (hjk : j ≤ k := by decide) (hg : Gl X x := by rfl)
    (hdb : (x == ("__debug__" : Str)) = false := by decide) (he : starEach (e :: es) X.env = (false, eval e X.env) :: starEach es X.env := by rfl) (hpl : (backTo pos (starEach es X.env)).any (·.1) = false := by rfl) :
    PE X (.Call (.Name x p) (e :: es) [] pos) (tCall sp [] E0 t) := by
  obtain ⟨f, fd, G, hm, hk, hb⟩ := D
  exact pe_call G (hr.mono hjk) hg hm hk hb .nil pass0 ha hdb he hpl
end
end Z
set_option maxHeartbeats 4000000
namespace Z
open PySem PySem.Spec PyProof.Rows L2
end Z
namespace Z
theorem map3 {α β γ δ : Type} {o : Option α} {f : α → β} {g : α → γ} {h : α → δ} {a : β} {b : γ} {c : δ} (h1 : o.map f = some a) (h2 : o.map g = some b) (h3 : o.map h = some c) : o.map (fun x => (f x, g x, h x)) = some (a, b, c) := by
  cases o with
  | none => cases h1
  | some x =>
    cases h1
    cases h2
    cases h3
    rfl
open PySem PySem.Spec PyProof.Rows L2
end Z
set_option maxHeartbeats 4000000
namespace Z
open PySem PySem.Spec PyProof.Rows L2
def obsRT (n : Nat) (fa : List FaK) (fn : List He.DefD) (g : Addr → Option Obj) : He.AlD := obsX fa fn (He.frT g (List.range n))
def hookRT (n : Nat) (fa : List FaK) (fn : List He.DefD) : PySem.W.Hook where
  α := He.AlD
  obs := fun s => obsRT n fa fn s.heap.get?
  val := fun _ => He.valD fn
  says := fun _ h => ∃ K : PySem.W.Frag, K.In h ∧ SaysX fa fn K
  of := fun _ _ e => ⟨_, He.frT_in, e⟩
  keeps := fun _ _ _ ⟨K, hK, c⟩ k => ⟨K, PySem.W.Frag.In.keeps hK k, c⟩
theorem obsRT_eq {n : Nat} {fa : List FaK} {fn : List He.DefD} {g : Addr → Option Obj} {s : Shared} (h : ∀ a, g a = s.heap.get? a) : obsRT n fa fn g = (hookRT n fa fn).obs s := by
  have e : g = s.heap.get? := funext h
  rw [e] <;> rfl
theorem obs_catT {α : Type} {o : Option α} {F : α → Addr → Option Obj} {n : Nat} {fa1 fa2 : List FaK} {fn1 fn2 : List He.DefD} (h1 : o.map (fun x => obsRT n fa1 fn1 (F x)) = some (He.valD fn1)) (h2 : o.map (fun x => obsRT n fa2 fn2 (F x)) = some (He.valD fn2)) :
    o.map (fun x => obsRT n (fa1 ++ fa2) (fn1 ++ fn2) (F x)) = some (He.valD (fn1 ++ fn2)) := by
  cases o with
  | none => cases h1
  | some x =>
    have e1 : obsRT n fa1 fn1 (F x) = He.valD fn1 := Option.some.inj h1
    have e2 : obsRT n fa2 fn2 (F x) = He.valD fn2 := Option.some.inj h2
    refine congrArg some ?_
    have a1 := (Prod.mk.inj e1)
    have a2 := (Prod.mk.inj e2)
    obtain ⟨b1, c1⟩ := He.ba a1.1
    obtain ⟨b2, c2⟩ := He.ba a2.1
    refine Prod.ext ?_ ?_
    · show (((fa1 ++ fa2).all fun f => f _) && (fn1 ++ fn2).all fun d => d.ok _) = true
      rw [List.all_append, List.all_append, b1, b2, c1, c2]
      rfl
    · show (fn1 ++ fn2).map _ = (fn1 ++ fn2).map _
      rw [List.map_append, List.map_append]
      exact congr (congrArg _ a1.2) a2.2
end Z
set_option maxHeartbeats 4000000
namespace Z
open PySem PySem.Spec PyProof.Rows L2
def penK (c : Addr) (a l : Int) : List (Key × V) := [(.inr "cells", .ref c), (.inr "at", .int a), (.inr "left", .int l)]
theorem key_ne {x y : Str} (h : ¬ x = y) : ¬ ((Sum.inr x : Key) = Sum.inr y) := fun q => h (Sum.inr.inj q)
theorem ca_ : ¬ (("cells" : Str) = "at") := by decide +kernel
theorem cl_ : ¬ (("cells" : Str) = "left") := by decide +kernel
theorem al_ : ¬ (("at" : Str) = "left") := by decide +kernel
theorem penK_cells (c : Addr) (a l : Int) : valV (penK c a l) (Sum.inr "cells" : Key) = some (.ref c) := valV_pos rfl
theorem penK_at (c : Addr) (a l : Int) : valV (penK c a l) (Sum.inr "at" : Key) = some (.int a) := by
  unfold penK
  rw [valV_neg (key_ne ca_)]
  exact valV_pos rfl
theorem penK_left (c : Addr) (a l : Int) : valV (penK c a l) (Sum.inr "left" : Key) = some (.int l) := by
  unfold penK
  rw [valV_neg (key_ne cl_), valV_neg (key_ne al_)]
  exact valV_pos rfl
theorem penK_put_at (c : Addr) (a l b : Int) : putK (penK c a l) (Sum.inr "at" : Key) (.int b) = penK c b l := by
  unfold putK
  rw [valV_any, penK_at, if_pos (show (some (V.int a)).isSome = true from rfl)]
  unfold penK
  simp only [List.map_cons, List.map_nil, if_neg (key_ne ca_), if_neg (key_ne (fun q => al_ q.symm)), if_true]
theorem penK_put_left (c : Addr) (a l b : Int) : putK (penK c a l) (Sum.inr "left" : Key) (.int b) = penK c a b := by
  unfold putK
  rw [valV_any, penK_left, if_pos (show (some (V.int l)).isSome = true from rfl)]
  unfold penK
  simp only [List.map_cons, List.map_nil, if_neg (key_ne cl_), if_neg (key_ne al_), if_true]
/-- a pen stands at p; at most t numbers were drawn -/
def Pen (H : Hp) (p : Addr) (t : Nat) : Prop := ∃ (c : Addr) (ns : List Int) (a l : Int), H p = some (.dK (penK c a l)) ∧ H c = some (.lst (ns.map V.int)) ∧ ns.length ≤ 63 ∧ 0 ≤ a ∧ a ≤ (t : Int) ∧ 0 ≤ l
/-- all but p is as it was -/
def Keep (p : Addr) (H H' : Hp) : Prop := ∀ a o, a ≠ p → H a = some o → H' a = some o
theorem Keep.refl (p : Addr) (H : Hp) : Keep p H H := fun _ _ _ h => h
theorem Keep.trans {p : Addr} {H H1 H2 : Hp} (a : Keep p H H1) (b : Keep p H1 H2) : Keep p H H2 := fun c o n h => b c o n (a c o n h)
theorem Keep.of {p : Addr} {H H' : Hp} (s : Same H H') : Keep p H H' := fun a o _ h => s a o h
theorem Keep.upd {p : Addr} {H H1 : Hp} (o : HO) (k : Keep p H H1) : Keep p H (upd H1 p o) := fun a u n h => by
  rw [upd_ne n]
  exact k a u n h
theorem Keep.new {p l : Addr} {H H1 : Hp} (o : HO) (k : Keep p H H1) (hl : H1 l = none) : Keep p H (L2.upd H1 l o) := fun a u n h => by
  have q := k a u n h
  rw [upd_ne (ne_of_none q hl)]
  exact q
theorem Same.new {l : Addr} {H H1 : Hp} (o : HO) (k : Same H H1) (hl : H1 l = none) : Same H (upd H1 l o) := fun a u h => by
  have q := k a u h
  rw [upd_ne (ne_of_none q hl)]
  exact q
theorem Pen.mono {H : Hp} {p : Addr} {t t' : Nat} (h : Pen H p t) (e : t ≤ t') : Pen H p t' := by
  obtain ⟨c, ns, a, l, h1, h2, h3, h4, h5, h6⟩ := h
  exact ⟨c, ns, a, l, h1, h2, h3, h4, by omega, h6⟩
/-- a pen is not touched where all stands -/
theorem Pen.same {H H' : Hp} {p : Addr} {t : Nat} (h : Pen H p t) (s : Same H H') : Pen H' p t := by
  obtain ⟨c, ns, a, l, h1, h2, h3⟩ := h
  exact ⟨c, ns, a, l, s _ _ h1, s _ _ h2, h3⟩
/-- what is no dict is not the pen -/
theorem Pen.ne {H : Hp} {p a : Addr} {t : Nat} {o : HO} (h : Pen H p t) (e : H a = some o) (d : ∀ kvs, o ≠ .dK kvs) : a ≠ p := by
  obtain ⟨c, ns, x, l, h1, _⟩ := h
  exact ne_of e h1 (d _)
def spPen (K : PySem.W.Frag) : Sp := fun vs H Q _ => ∃ (a : Addr) (ns : List Int), vs = [.ref a] ∧ SqL K H a (ns.map V.int) ∧ ns.length ≤ 63 ∧ ∀ H' p, Same H H' → H p = none → Pen H' p 0 → Q (.ref p) H'
def spDraw : Sp := fun vs H Q _ => ∃ (p : Addr) (m : Int) (t : Nat), vs = [.ref p, .int m] ∧ 0 < m ∧ m < 1073741824 ∧ t < 1000000000 ∧ Pen H p t ∧ ∀ H' (d : Int), 0 ≤ d → d < m → Pen H' p (t + 1) → Keep p H H' → Q (.int d) H'
theorem fmod_range {x m : Int} (h : 0 < m) : 0 ≤ x.fmod m ∧ x.fmod m < m := by
  rw [Int.fmod_eq_emod_of_nonneg _ (Int.le_of_lt h)]
  exact ⟨Int.emod_nonneg _ (by omega), Int.emod_lt_of_pos _ h⟩
theorem fdiv_nn {x m : Int} (hx : 0 ≤ x) (h : 0 < m) : 0 ≤ x.fdiv m := by
  rw [Int.fdiv_eq_ediv_of_nonneg _ (Int.le_of_lt h)]
  exact Int.ediv_nonneg hx (Int.le_of_lt h)
section
variable {H : Hp} {p c : Addr} {a l b : Int}
theorem pen_left (h : H p = some (.dK (penK c a l))) : DGet H p (.str "left") (some (.int l)) := by
  have z := DGet.k (k := (Sum.inr "left" : Key)) h
  rw [penK_left] at z
  exact z
theorem pen_at (h : H p = some (.dK (penK c a l))) : DGet H p (.str "at") (some (.int a)) := by
  have z := DGet.k (k := (Sum.inr "at" : Key)) h
  rw [penK_at] at z
  exact z
theorem pen_cells (h : H p = some (.dK (penK c a l))) : DGet H p (.str "cells") (some (.ref c)) := by
  have z := DGet.k (k := (Sum.inr "cells" : Key)) h
  rw [penK_cells] at z
  exact z
theorem pen_put_left (b : Int) (h : H p = some (.dK (penK c a l))) : DPut H p (.str "left") (.int b) (upd H p (.dK (penK c a b))) := by
  have z := DPut.k (k := (Sum.inr "left" : Key)) (v := .int b) h (show 3 < sizeLine by decide)
  rw [penK_put_left] at z
  exact z
theorem pen_put_at (b : Int) (h : H p = some (.dK (penK c a l))) : DPut H p (.str "at") (.int b) (upd H p (.dK (penK c b l))) := by
  have z := DPut.k (k := (Sum.inr "at" : Key)) (v := .int b) h (show 3 < sizeLine by decide)
  rw [penK_put_at] at z
  exact z
end
theorem lst_ne_dK {xs : List V} {kvs : List (Key × V)} : HO.lst xs ≠ .dK kvs := fun z => by cases z
theorem get_ints {ns : List Int} {i : Nat} (h : i < ns.length) : (ns.map V.int)[i]? = some (.int (ns[i]'h)) := by
  rw [List.getElem?_map, List.getElem?_eq_getElem h]
  rfl
end Z
set_option maxHeartbeats 4000000
namespace Z
open PySem PySem.W PySem.Calls PyProof.Rows
end Z
set_option maxHeartbeats 4000000
namespace Z
open PySem PySem.Spec PyProof.Rows L2
/-- what is asked of a class whose instances stand beside ints -/
def opiB (K : PySem.W.Frag) (C : Addr) (nm : String) : Bool :=
  PySem.W.selfFirst K C && ((match PySem.W.findIn K (.ref C) (dunderR nm) with
    | some none => true
    | some (some (.ref _)) => true
    | _ => false) && ((PySem.W.findIn K (.type "int") (dunder nm)).isSome && ((PySem.W.findIn K (.type "int") (dunderR nm)).isSome && (decide (PySem.W.subIn K (.type "int") (.ref C) = some false) && decide (PySem.W.subIn K (.ref C) (.type "int") = some false)))))
structure OpI (K : PySem.W.Frag) (C : Addr) (nm : String) : Prop where
  sf : PySem.W.selfFirst K C = true
  rr : ∃ rc, PySem.W.findIn K (.ref C) (dunderR nm) = some rc ∧ (rc = none ∨ ∃ g : Addr, rc = some (.ref g))
  i1 : ∃ fo, PySem.W.findIn K (.type "int") (dunder nm) = some fo
  i2 : ∃ fo, PySem.W.findIn K (.type "int") (dunderR nm) = some fo
  s1 : PySem.W.subIn K (.type "int") (.ref C) = some false
  s2 : PySem.W.subIn K (.ref C) (.type "int") = some false
theorem opiB_ok {K : PySem.W.Frag} {C : Addr} {nm : String} (h : opiB K C nm = true) : OpI K C nm := by
  obtain ⟨h1, h⟩ := He.ba h
  obtain ⟨h2, h⟩ := He.ba h
  obtain ⟨h3, h⟩ := He.ba h
  obtain ⟨h4, h⟩ := He.ba h
  obtain ⟨h5, h6⟩ := He.ba h
  refine ⟨h1, ?_, Option.isSome_iff_exists.mp h3, Option.isSome_iff_exists.mp h4, of_decide_eq_true h5, of_decide_eq_true h6⟩
  cases e : PySem.W.findIn K (.ref C) (dunderR nm) with
  | none =>
    rw [e] at h2
    cases h2
  | some o =>
    rw [e] at h2
    cases o with
    | none => exact ⟨_, rfl, .inl rfl⟩
    | some v =>
      cases v with
      | ref g => exact ⟨_, rfl, .inr ⟨g, rfl⟩⟩
      | _ => cases h2
section
variable {X : Cx}
theorem ins_at {pins : List (Addr × Obj)} {σ : L2.St} {H : Hp} {s : Shared} {a C dx : Addr} {fs : List (Str × V)} (I : L2.Inv X pins σ H s) (e : H a = some (.ins C dx fs)) : ∃ od, PySem.W.InstAt s.heap a (PySem.W.instObj C dx) C (some od) := by
  obtain ⟨mA, O, _⟩ := ins_get I.hok e
  obtain ⟨od, J, _⟩ := O.look
  exact ⟨od, J⟩
end
end Z
set_option maxHeartbeats 4000000
namespace Z
open PySem PySem.Spec PyProof.Rows L2
/-- behind a new instance -/
theorem Same.made {H H1 H' : Hp} {x dx C : Addr} (s : Same H H1) (nx : H1 x = none) (nd : H1 dx = none) (kp : Keep x (upd (upd H1 dx (.own x)) x (.ins C dx [])) H') : Same H H' := fun b u e => by
  have q := s b u e
  have nb : b ≠ x := ne_of_none q nx
  have nd' : b ≠ dx := ne_of_none q nd
  exact kp b u nb (by rw [upd_ne nb, upd_ne nd']; exact q)
theorem in_ : ¬ (("i" : Str) = "n") := by decide +kernel
theorem io_ : ¬ (("i" : Str) = "one") := by decide +kernel
theorem no_ : ¬ (("n" : Str) = "one") := by decide +kernel
theorem sd_ : ¬ (("straight" : Str) = "divisor") := by decide +kernel
theorem len1 (f : Str) (v : V) : (putF f v []).length < 1000 := Nat.lt_of_le_of_lt (length_putF f v []) (by decide)
theorem len2 (f g : Str) (v u : V) : (putF f v (putF g u [])).length < 1000 := Nat.lt_of_le_of_lt (Nat.le_trans (length_putF f v _) (Nat.add_le_add_right (length_putF g u []) 1)) (by decide)
def sf (a b c : Int) : List (Str × V) := putF "one" (.int c) (putF "n" (.int b) (putF "i" (.int a) []))
theorem sf_i (a b c : Int) : (sf a b c).lookup ("i" : Str) = some (.int a) := by
  unfold sf
  rw [lookup_putF, if_neg io_, lookup_putF, if_neg in_, lookup_putF, if_pos rfl]
theorem sf_n (a b c : Int) : (sf a b c).lookup ("n" : Str) = some (.int b) := by
  unfold sf
  rw [lookup_putF, if_neg no_, lookup_putF, if_pos rfl]
theorem sf_one (a b c : Int) : (sf a b c).lookup ("one" : Str) = some (.int c) := by
  unfold sf
  rw [lookup_putF, if_pos rfl]
def pf (q : Addr) (d : Int) : List (Str × V) := putF "divisor" (.int d) (putF "straight" (.ref q) [])
theorem pf_s (q : Addr) (d : Int) : (pf q d).lookup ("straight" : Str) = some (.ref q) := by
  unfold pf
  rw [lookup_putF, if_neg sd_, lookup_putF, if_pos rfl]
theorem pf_d (q : Addr) (d : Int) : (pf q d).lookup ("divisor" : Str) = some (.int d) := by
  unfold pf
  rw [lookup_putF, if_pos rfl]
section
variable (K : PySem.W.Frag)
abbrev CS : Addr := He.ga K "Straight"
abbrev CP : Addr := He.ga K "Place"
def StrAt (H : Hp) (p : Addr) (a b c : Int) : Prop := ∃ dx, H p = some (.ins (CS K) dx (sf a b c))
def PlcAt (H : Hp) (p : Addr) (a b c d : Int) : Prop := ∃ dx q, H p = some (.ins (CP K) dx (pf q d)) ∧ StrAt K H q a b c
/-- a sum, or an int in its place -/
def SumV (H : Hp) (v : V) (a b c : Int) : Prop := (∃ p, v = .ref p ∧ StrAt K H p a b c) ∨ (v = .int c ∧ a = 0 ∧ b = 0)
end
variable {K : PySem.W.Frag}
theorem StrAt.same {H H' : Hp} {p : Addr} {a b c : Int} (h : StrAt K H p a b c) (s : Same H H') : StrAt K H' p a b c := by
  obtain ⟨dx, h⟩ := h
  exact ⟨dx, s _ _ h⟩
theorem PlcAt.same {H H' : Hp} {p : Addr} {a b c d : Int} (h : PlcAt K H p a b c d) (s : Same H H') : PlcAt K H' p a b c d := by
  obtain ⟨dx, q, h, h2⟩ := h
  exact ⟨dx, q, s _ _ h, h2.same s⟩
theorem SumV.same {H H' : Hp} {v : V} {a b c : Int} (h : SumV K H v a b c) (s : Same H H') : SumV K H' v a b c := by
  rcases h with ⟨p, e, h⟩ | h
  · exact .inl ⟨p, e, h.same s⟩
  · exact .inr h
/-- small enough to be multiplied by anything -/
def Sm (i : Int) : Prop := -(2 ^ 64) < i ∧ i < 2 ^ 64
structure Inx (K : PySem.W.Frag) (C : Addr) : Prop where
  ha : PySem.W.findIn K (.ref C) "__class__" = some (some (.builtin "object.__class__"))
  hn : PySem.W.specialIn K (.builtin "object.__class__") "__get__" = some (some (.builtin "getset_descriptor.__get__"))
  ht : PySem.W.takesIn K (.builtin "object.__class__") = some true
  hm : PySem.W.mroIn K C (.type "object") = some true
structure StTx (K : PySem.W.Frag) (mg : Str → Option Value) : Prop where
  gS : mg "Straight" = some (.ref (CS K))
  clS : Cls K (CS K)
  mkS : Mk K (CS K) (He.ma K (CS K) "__init__")
  ixS : Inx K (CS K)
  nI : NoAttr K (CS K) "i"
  nN : NoAttr K (CS K) "n"
  nO : NoAttr K (CS K) "one"
  kSi : PySem.W.kitOne K (.ref (CS K)) (.type "int") = some false
  kSS : PySem.W.kitOne K (.ref (CS K)) (.ref (CS K)) = some true
  kiS : PySem.W.kitOne K (.type "int") (.ref (CS K)) = some false
  isi : mg "isinstance" = none
  int : mg "int" = none
  bool : mg "bool" = none
theorem StTx.ty {mg : Str → Option Value} (T : StTx K mg) {H : Hp} {p : Addr} {a b c : Int} (h : StrAt K H p a b c) : TyOf K H (.ref p) (.ref (CS K)) := by
  obtain ⟨dx, h⟩ := h
  exact .ins h T.clS T.ixS.ha T.ixS.hn T.ixS.ht T.ixS.hm
theorem kii {K : PySem.W.Frag} : PySem.W.kitOne K (.type "int") (.type "int") = some true := kit_ty (by decide +kernel)
theorem kib {K : PySem.W.Frag} : PySem.W.kitOne K (.type "int") (.type "bool") = some false := kit_ty (by decide +kernel)
section
variable (K : PySem.W.Frag)
def spSI : Sp := fun vs H Q _ => ∃ (p dx : Addr) (a b c : Int), vs = [.ref p, .int a, .int b, .int c] ∧ H p = some (.ins (CS K) dx []) ∧ ∀ H', H' p = some (.ins (CS K) dx (sf a b c)) → Keep p H H' → Q .non H'
/-- a new sum is handed back -/
def NewS (H : Hp) (a b c : Int) (Q : VK) : Prop := ∀ p H', Same H H' → H p = none → StrAt K H' p a b c → Q (.ref p) H'
def spIsInt : Sp := fun vs H Q _ => ∃ v, vs = [v] ∧ ((∃ i, v = .int i ∧ Q (.bl true) H) ∨ ∃ p a b c, v = .ref p ∧ StrAt K H p a b c ∧ Q (.bl false) H)
def spLike : Sp := fun vs H Q _ => ∃ v a b c, vs = [v] ∧ SumV K H v a b c ∧ ∀ p H', Same H H' → StrAt K H' p a b c → Q (.ref p) H'
def spVal : Sp := fun vs H Q _ => ∃ (p : Addr) (a b c i n : Int), vs = [.ref p, .int i, .int n] ∧ StrAt K H p a b c ∧ Sm a ∧ Sm b ∧ Q (.int (a * i + b * n + c)) H
end
end Z
set_option maxHeartbeats 4000000
namespace Z
open PySem PySem.Spec PyProof.Rows L2
end Z
set_option maxHeartbeats 4000000
namespace Z
open PySem PySem.Spec PyProof.Rows L2
def Bd (n : Nat) (x : Int) : Prop := x.natAbs < 2 ^ n
theorem Bd.mono {n m : Nat} {x : Int} (h : Bd n x) (e : n ≤ m) : Bd m x := Nat.lt_of_lt_of_le h (Nat.pow_le_pow_right (by decide) e)
theorem Bd.sub {n : Nat} {x y : Int} (h : Bd n x) (g : Bd n y) : Bd (n + 1) (x - y) := by
  unfold Bd at *
  rw [Nat.pow_succ]
  omega
theorem Bd.of {n : Nat} {x : Int} (N : Nat) (hN : N < 2 ^ n) (h1 : -(N : Int) ≤ x) (h2 : x ≤ (N : Int)) : Bd n x := by
  unfold Bd
  omega
end Z
set_option maxHeartbeats 4000000
namespace Z
open PySem PySem.Spec PyProof.Rows L2
section
variable {X : Cx} {CX : CXT} {k : Nat} {f C : Addr} {fd : FuncData} {ps : List Str} {sp : Sp} {E : XK}
theorem make_at {pins : List (Addr × Obj)} {σ : L2.St} {H : Hp} {s : Shared} {Q : VK} {us : List Value} {vs : List V} (M : Mk X.K C f) (F : FnOk X.prog X.w X.K X.mg X.base CX k f fd ps sp) (hr : Room (k + 1) X.A) (hb : Binds X.K fd ps [])
    (hx : PassesAt CX X σ E) (I : L2.Inv X pins σ H s) (r : Vals vs us)
    (h : ∀ x dx, H x = none → H dx = none → dx ≠ x → sp (.ref x :: vs) (upd (upd H dx (.own x)) x (.ins C dx [])) (fun v H2 => v = .non ∧ Q (.ref x) H2) E) :
    wpAny (model X.prog X.w) X.A (call (.ref C) us) (EP X pins σ Q) X.xe s := by
  have q0 := h (s.heap.objs.size + 1) s.heap.objs.size (I.hok.fresh (Nat.le_succ _)) (I.hok.fresh (Nat.le_refl _)) (Nat.ne_of_lt (Nat.lt_succ_self _))
  have J := Inv.made (C := C) I
  have rr : Vals (V.ref (s.heap.objs.size + 1) :: vs) (Value.ref (s.heap.objs.size + 1) :: us) := .cons rfl r
  have len : (Value.ref (s.heap.objs.size + 1) :: us).length = ps.length := by
    have e := rr.length
    rw [F.len _ _ _ _ q0] at e
    exact e.symm
  have bb := hb _ (Value.ref (s.heap.objs.size + 1) :: us) J.kIn (by rw [List.append_nil]; exact len)
  rw [List.append_nil] at bb
  refine wpAny_call (make_map (f := f) I.kIn M.makes M.init (beq_iff_eq.mp M.fn) (codeAny_mono (F.run _ X.stack _ _ ⟨Value.ref (s.heap.objs.size + 1) :: us, []⟩ (Value.ref (s.heap.objs.size + 1) :: us) _ _ E (hr.make C us [])
    (J.env0.make C us []) bb rr q0) fun r' s' z => ?_))
  cases r' with
  | error e => exact hx pins _ _ e s' J z
  | ok fl =>
    cases fl with
    | ret u =>
      obtain ⟨v, H', I3, rv, ev, q3⟩ := J.after z
      subst ev
      exact ⟨rv, ⟨V.ref (s.heap.objs.size + 1), H', I3, rfl, q3⟩⟩
    | next => exact False.elim z
    | brk => exact False.elim z
    | cont => exact False.elim z
theorem at_E0 (σ : L2.St) : PassesAt (L2.CX X.prog X.w) X σ E0 := fun pins H s e s' I h => passL pins σ H s e s' I h
end
def spErr (K : PySem.W.Frag) (x : Str) (fs : List Str) : Sp := fun vs H Q _ => ∃ (a : Addr) (ws : List V), vs = .ref a :: ws ∧ ws.length = fs.length ∧ H a = some (exo a (He.ga K x) none) ∧
  ∀ (d : Addr) (H' : Hp), H d = none → H' a = some (exo a (He.ga K x) (some d)) → H' d = some (exd d (fs.zip ws).reverse) → Keep a H H' → Q .non H'
structure EC (K : PySem.W.Frag) (mg : Str → Option Value) (x : Str) (fs : List Str) : Prop where
  gC : mg x = some (.ref (He.ga K x))
  ox : OexC K (He.ga K x)
  ex : Exk K (He.ga K x)
  iC : PySem.W.findIn K (.ref (He.ga K x)) "__init__" = some (some (.ref (He.ma K (He.ga K x) "__init__")))
  tI : PySem.W.typeIn K (.ref (He.ma K (He.ga K x) "__init__")) = some (.type "function")
  na : ∀ f ∈ fs, PySem.W.findIn K (.ref (He.ga K x)) f = some none
theorem list2 {ws : List V} (h : ws.length = 2) : ∃ y z, ws = [y, z] := match ws, h with | [y, z], _ => ⟨y, z, rfl⟩
theorem list1 {ws : List V} (h : ws.length = 1) : ∃ y, ws = [y] := match ws, h with | [y], _ => ⟨y, rfl⟩
theorem list3 {ws : List V} (h : ws.length = 3) : ∃ y z u, ws = [y, z, u] := match ws, h with | [y, z, u], _ => ⟨y, z, u, rfl⟩
section
variable {K : PySem.W.Frag} {mg : Str → Option Value} {x f1 f2 f3 n0 n1 n2 n3 : Str} {vs : List V} {H : Hp} {Q : VK} {E : XK}
theorem keep1 {a d : Addr} {o u : HO} (hd : H d = none) : Keep a H (upd (upd H d o) a u) := Keep.upd _ (Keep.new _ (Keep.refl a H) hd)
theorem rd_err1 (M : EC K mg x [f1]) (h : spErr K x [f1] vs H Q E) :
    tOst K f1 (tVar 0) (tVar 1) { nx := fun _ H' => Q .non H', rt := Q } (L2.start [n0, n1] vs) H := by
  obtain ⟨a, ws, rfl, hl, ha, k⟩ := h
  obtain ⟨y, rfl⟩ := list1 hl
  refine ⟨_, rfl, _, rfl, a, _, rfl, M.ox, M.na _ (by simp), .inl ⟨ha, fun d hd nd => ?_⟩⟩
  exact k d _ hd upd_same (by rw [upd_ne nd, upd_same]; rfl) (keep1 hd)
theorem rd_err2 (M : EC K mg x [f1, f2]) (h : spErr K x [f1, f2] vs H Q E) :
    tSeq (tOst K f1 (tVar 0) (tVar 1)) (tOst K f2 (tVar 0) (tVar 2)) { nx := fun _ H' => Q .non H', rt := Q } (L2.start [n0, n1, n2] vs) H := by
  obtain ⟨a, ws, rfl, hl, ha, k⟩ := h
  obtain ⟨y, z, rfl⟩ := list2 hl
  refine ⟨_, rfl, _, rfl, a, _, rfl, M.ox, M.na _ (by simp), .inl ⟨ha, fun d hd nd => ?_⟩⟩
  refine ⟨_, rfl, _, rfl, a, _, rfl, M.ox, M.na _ (by simp), .inr ⟨d, [(f1, y)], upd_same, (by rw [upd_ne nd, upd_same]), (by show 1 ≤ 900; decide), ?_⟩⟩
  refine k d _ hd (by rw [upd_ne nd.symm, upd_same]) upd_same fun b u nb e => ?_
  rw [upd_ne (ne_of_none e hd)]
  exact keep1 hd b u nb e
theorem rd_err3 (M : EC K mg x [f1, f2, f3]) (h : spErr K x [f1, f2, f3] vs H Q E) :
    tSeq (tOst K f1 (tVar 0) (tVar 1)) (tSeq (tOst K f2 (tVar 0) (tVar 2)) (tOst K f3 (tVar 0) (tVar 3))) { nx := fun _ H' => Q .non H', rt := Q } (L2.start [n0, n1, n2, n3] vs) H := by
  obtain ⟨a, ws, rfl, hl, ha, k⟩ := h
  obtain ⟨y, z, u, rfl⟩ := list3 hl
  refine ⟨_, rfl, _, rfl, a, _, rfl, M.ox, M.na _ (by simp), .inl ⟨ha, fun d hd nd => ?_⟩⟩
  refine ⟨_, rfl, _, rfl, a, _, rfl, M.ox, M.na _ (by simp), .inr ⟨d, [(f1, y)], upd_same, (by rw [upd_ne nd, upd_same]), (by show 1 ≤ 900; decide), ?_⟩⟩
  refine ⟨_, rfl, _, rfl, a, _, rfl, M.ox, M.na _ (by simp), .inr ⟨d, [(f2, z), (f1, y)], (by rw [upd_ne nd.symm, upd_same]), upd_same, (by show 2 ≤ 900; decide), ?_⟩⟩
  refine k d _ hd (by rw [upd_ne nd.symm, upd_ne nd.symm, upd_same]) upd_same fun b v nb e => ?_
  rw [upd_ne (ne_of_none e hd), upd_ne (ne_of_none e hd)]
  exact keep1 hd b v nb e
end
/-- an error class that may be raised -/
def Mx (P : Program) (w : World) (K : PySem.W.Frag) (mg : Str → Option Value) (base : Heap) (x : Str) (ps fs : List Str) : Prop :=
  EC K mg x fs ∧ ∃ fd, FnOk P w K mg base CX0 1 (He.ma K (He.ga K x) "__init__") fd ps (spErr K x fs) ∧ Binds K fd ps []
section
variable {X : Cx} {e : Expr} {es : List Expr} {t : TA} {p pos pos2 : Pos} {W : WX}
theorem pmk_err {k : Nat} {x : Str} {ps fs : List Str} (M : Mx X.prog X.w X.K X.mg X.base x ps fs) (hr : Room k X.A) (ha : PA X (e :: es) t) (hk : 2 ≤ k := by decide) (hg : Gl X x := by rfl)
    (hdb : (x == ("__debug__" : Str)) = false := by decide) (he : starEach (e :: es) X.env = (false, eval e X.env) :: starEach es X.env := by rfl) (hpl : (backTo pos (starEach es X.env)).any (·.1) = false := by rfl) :
    PMk X (.Call (.Name x p) (e :: es) [] pos) (tMkO (He.ga X.K x) (spErr X.K x fs) [] t) := by
  obtain ⟨T, fd, F, hb⟩ := M
  exact pmk_oex (CX := CX0) (dvs := []) (ds := []) T.ox T.iC T.tI F (hr.mono hk) hb .nil pass0 hg T.gC ha hdb he hpl
/-- the reading of such a raise behind its arguments: the new dict holds the fields, all else is as it was -/
theorem err_go {K : PySem.W.Frag} {x : Str} {fs : List Str} {vs : List V} {H1 : Hp} {Q : XK} (hl : vs.length ≤ 1000) (hlf : vs.length = fs.length)
    (w : ∀ d H', Same H1 H' → H' d = some (.xd (fs.zip vs).reverse) → Q (.ref (He.ga K x)) (some d) H') :
    vs.length ≤ 1000 ∧ ∀ a, H1 a = none → spErr K x fs (.ref a :: (vs ++ [])) (upd H1 a (exo a (He.ga K x) none))
      (fun v H2 => v = .non ∧ ∃ (d : Addr) (fs' : List (Str × V)), H2 a = some (exo a (He.ga K x) (some d)) ∧ H2 d = some (exd d fs') ∧ H1 d = none ∧ Q (.ref (He.ga K x)) (some d) (upd (del H2 a) d (.xd fs'))) (fun _ _ _ => False) := by
  refine ⟨hl, fun a ha => ?_⟩
  rw [List.append_nil]
  refine ⟨a, vs, rfl, hlf, upd_same, fun d H' hd hA hD kp => ⟨rfl, d, _, hA, hD, ?_, w d _ (fun b u e => ?_) upd_same⟩⟩
  · have n : d ≠ a := fun z => by
      rw [z, upd_same] at hd
      cases hd
    rw [upd_ne n] at hd
    exact hd
  · have nb : b ≠ a := ne_of_none e ha
    have nd : b ≠ d := fun z => by
      rw [← z, upd_ne nb] at hd
      rw [hd] at e
      cases e
    rw [upd_ne nd, del_ne nb]
    exact kp b u nb (by rw [upd_ne nb]; exact e)
end
def gg (a b d : Int) : Nat := Nat.gcd (Nat.gcd a.natAbs b.natAbs) d.natAbs
abbrev CB (K : PySem.W.Frag) : Addr := He.ga K "BadNumber"
structure PlTx (K : PySem.W.Frag) (mg : Str → Option Value) : Prop extends StTx K mg where
  gP : mg "Place" = some (.ref (CP K))
  clP : Cls K (CP K)
  mkP : Mk K (CP K) (He.ma K (CP K) "__init__")
  ixP : Inx K (CP K)
  nS : NoAttr K (CP K) "straight"
  nD : NoAttr K (CP K) "divisor"
  gcd : mg "gcd" = some (.builtin "math.gcd")
  kPP : PySem.W.kitOne K (.ref (CP K)) (.ref (CP K)) = some true
  kPS : PySem.W.kitOne K (.ref (CP K)) (.ref (CS K)) = some false
  kSP : PySem.W.kitOne K (.ref (CS K)) (.ref (CP K)) = some false
  kiP : PySem.W.kitOne K (.type "int") (.ref (CP K)) = some false
theorem PlTx.pty {K : PySem.W.Frag} {mg : Str → Option Value} (T : PlTx K mg) {H : Hp} {p : Addr} {a b c d : Int} (h : PlcAt K H p a b c d) : TyOf K H (.ref p) (.ref (CP K)) := by
  obtain ⟨dx, q, h, _⟩ := h
  exact .ins h T.clP T.ixP.ha T.ixP.hn T.ixP.ht T.ixP.hm
def bnF (w : Str) (v : V) : List (Str × V) := [("number", v), ("what", .str w)]
section
variable (K : PySem.W.Frag)
/-- the place that is made of a sum and a divisor -/
def NewP (H : Hp) (a b c d : Int) (Q : VK) : Prop := ∀ p H', Same H H' → PlcAt K H' p (a.fdiv (gg a b d)) (b.fdiv (gg a b d)) (c.fdiv (gg a b d)) (d.fdiv (gg a b d)) → Q (.ref p) H'
def BadN (H : Hp) (w : Str) (v : V) (E : XK) : Prop := ∀ e H', Same H H' → H' e = some (.xd (bnF w v)) → E (.ref (CB K)) (some e) H'
def spPCall : Sp := fun vs H Q _ => ∃ (p : Addr) (a b c d i n : Int), vs = [.ref p, .int i, .int n] ∧ PlcAt K H p a b c d ∧ Sm a ∧ Sm b ∧ 0 < d ∧ d < 1073741824 ∧ Q (.int ((a * i + b * n + c).fdiv d)) H
end
end Z
namespace Z
theorem fe {x g : Int} (h : 0 < g) : x.fdiv g = x / g := Int.fdiv_eq_ediv_of_nonneg _ (Int.le_of_lt h)
theorem gg_pos {a b d : Int} (h : 0 < d) : 0 < gg a b d := Nat.gcd_pos_of_pos_right _ (by omega)
theorem gg_le {a b d : Int} (h : 0 < d) : ((gg a b d : Nat) : Int) ≤ d := by
  have := Nat.le_of_dvd (by omega) (Nat.gcd_dvd_right (Nat.gcd a.natAbs b.natAbs) d.natAbs)
  show ((Nat.gcd (Nat.gcd a.natAbs b.natAbs) d.natAbs : Nat) : Int) ≤ d
  omega
theorem gg_dvd (a b d : Int) : ∃ a' b' d', a = (gg a b d : Int) * a' ∧ b = (gg a b d : Int) * b' ∧ d = (gg a b d : Int) * d' := by
  have h1 : ((gg a b d : Nat) : Int) ∣ a := Int.ofNat_dvd_left.mpr (Nat.dvd_trans (Nat.gcd_dvd_left _ _) (Nat.gcd_dvd_left _ _))
  have h2 : ((gg a b d : Nat) : Int) ∣ b := Int.ofNat_dvd_left.mpr (Nat.dvd_trans (Nat.gcd_dvd_left _ _) (Nat.gcd_dvd_right _ _))
  have h3 : ((gg a b d : Nat) : Int) ∣ d := Int.ofNat_dvd_left.mpr (Nat.gcd_dvd_right _ _)
  exact ⟨_, _, _, h1.choose_spec, h2.choose_spec, h3.choose_spec⟩
theorem fmul {g x : Int} (h : 0 < g) : (g * x).fdiv g = x := by
  rw [fe h]
  exact Int.mul_ediv_cancel_left _ (by omega)
theorem fdiv_bd {x M g : Int} (h : 0 < g) (hM : 0 ≤ M) (h1 : -M ≤ x) (h2 : x ≤ M) : -M ≤ x.fdiv g ∧ x.fdiv g ≤ M := by
  rw [fe h]
  have z : M ≤ M * g := by
    have := Int.mul_le_mul_of_nonneg_left (show (1 : Int) ≤ g by omega) hM
    omega
  have z2 : -M * g ≤ x := by
    rw [Int.neg_mul]
    omega
  refine ⟨Int.le_ediv_of_mul_le h z2, ?_⟩
  exact Int.ediv_le_of_le_mul h (by omega)
/-- the divisor of the least form is from 1 on and not above d -/
theorem dv_bd {a b d : Int} (h : 0 < d) : 1 ≤ d.fdiv (gg a b d) ∧ d.fdiv (gg a b d) ≤ d := by
  have g0 : (0 : Int) < (gg a b d : Nat) := by exact_mod_cast gg_pos h
  refine ⟨?_, (fdiv_bd g0 (Int.le_of_lt h) (by omega) (Int.le_refl d)).2⟩
  rw [fe g0]
  exact Int.le_ediv_of_mul_le g0 (by rw [Int.one_mul]; exact gg_le h)
/-- the value of the least form -/
theorem val_least {a b c d i n : Int} (h : 0 < d) : ((a.fdiv (gg a b d)) * i + (b.fdiv (gg a b d)) * n + c.fdiv (gg a b d)).fdiv (d.fdiv (gg a b d)) = (a * i + b * n + c).fdiv d := by
  have dv := dv_bd (a := a) (b := b) h
  obtain ⟨a', b', d', ha, hb, hd⟩ := gg_dvd a b d
  have g0 : (0 : Int) < (gg a b d : Nat) := by exact_mod_cast gg_pos h
  generalize ((gg a b d : Nat) : Int) = g at *
  have e1 : a.fdiv g = a' := by rw [ha]; exact fmul g0
  have e2 : b.fdiv g = b' := by rw [hb]; exact fmul g0
  have e3 : d.fdiv g = d' := by rw [hd]; exact fmul g0
  rw [e3] at dv
  rw [e1, e2, e3, fe (show 0 < d' by omega), fe g0, fe h]
  have e4 : a * i + b * n + c = c + g * (a' * i + b' * n) := by
    rw [ha, hb, Int.mul_add, Int.mul_assoc, Int.mul_assoc]
    omega
  have e5 : a' * i + b' * n + c / g = (c + g * (a' * i + b' * n)) / g := by
    rw [Int.add_mul_ediv_left _ _ (by omega)]
    omega
  rw [e4, e5, hd, Int.ediv_ediv_of_nonneg (Int.le_of_lt g0)]
end Z
set_option maxHeartbeats 4000000
namespace Z
open PySem PySem.Spec PyProof.Rows L2
def g2 (a b : Int) : Nat := Nat.gcd a.natAbs b.natAbs
def lf3 (a b c : Int) : Int := if g2 a b = 0 then (if 0 ≤ c then 0 else -1) else c.fdiv (g2 a b)
theorem g2_le {a b : Int} {N : Nat} (ha : a.natAbs ≤ N) (hb : b.natAbs ≤ N) : g2 a b ≤ N := by
  unfold g2
  by_cases h : a.natAbs = 0
  · rw [h, Nat.gcd_zero_left]
    exact hb
  · exact Nat.le_trans (Nat.le_of_dvd (by omega) (Nat.gcd_dvd_left _ _)) ha
theorem g2_zero {a b : Int} (h : g2 a b = 0) : a = 0 ∧ b = 0 := by
  unfold g2 at h
  have h1 := Nat.eq_zero_of_gcd_eq_zero_left h
  have h2 := Nat.eq_zero_of_gcd_eq_zero_right h
  omega
/-- the least form tells the same -/
theorem least_form {a b c i n : Int} : decide (0 ≤ (a.fdiv (g2 a b)) * i + (b.fdiv (g2 a b)) * n + lf3 a b c) = decide (0 ≤ a * i + b * n + c) := by
  unfold lf3
  by_cases h : g2 a b = 0
  · obtain ⟨rfl, rfl⟩ := g2_zero h
    rw [if_pos h, Int.zero_fdiv, Int.zero_mul, Int.zero_mul]
    by_cases hc : 0 ≤ c
    · rw [if_pos hc]
      exact decide_eq_decide.mpr (by omega)
    · rw [if_neg hc]
      exact decide_eq_decide.mpr (by omega)
  · rw [if_neg h]
    have h1 : ((g2 a b : Nat) : Int) ∣ a := Int.ofNat_dvd_left.mpr (Nat.gcd_dvd_left _ _)
    have h2 : ((g2 a b : Nat) : Int) ∣ b := Int.ofNat_dvd_left.mpr (Nat.gcd_dvd_right _ _)
    obtain ⟨a', ha⟩ := h1
    obtain ⟨b', hb⟩ := h2
    have g0 : (0 : Int) < (g2 a b : Nat) := by omega
    generalize ((g2 a b : Nat) : Int) = g at *
    have e1 : a.fdiv g = a' := by rw [ha]; exact fmul g0
    have e2 : b.fdiv g = b' := by rw [hb]; exact fmul g0
    rw [e1, e2, fe g0]
    have e4 : a * i + b * n + c = c + g * (a' * i + b' * n) := by
      rw [ha, hb, Int.mul_add, Int.mul_assoc, Int.mul_assoc]
      omega
    have e5 : a' * i + b' * n + c / g = (c + g * (a' * i + b' * n)) / g := by
      rw [Int.add_mul_ediv_left _ _ (by omega)]
      omega
    rw [e4, e5]
    exact decide_eq_decide.mpr (Int.ediv_nonneg_iff_of_pos g0)
theorem fm {x m : Int} (h : 0 < m) : x.fmod m = x % m := Int.fmod_eq_emod_of_nonneg _ (Int.le_of_lt h)
theorem rest_form {a b c m r i n : Int} (hm : 2 ≤ m) (hm2 : m ≤ 4) (r0 : 0 ≤ r) (r1 : r ≤ m - 1) : decide (((a.fmod m) * i + (b.fmod m) * n + 0).fmod m = (r - c).fmod m) = decide ((a * i + b * n + c).fmod m = r) := by
  have m0 : 0 < m := by omega
  rw [fm m0, fm m0, fm m0, fm m0, fm m0]
  have e : a * i + b * n = (a % m * i + b % m * n) + m * (a / m * i + b / m * n) := by
    have e1 : a * i = a % m * i + m * (a / m * i) := by
      rw [← Int.mul_assoc, ← Int.add_mul, Int.emod_add_mul_ediv]
    have e2 : b * n = b % m * n + m * (b / m * n) := by
      rw [← Int.mul_assoc, ← Int.add_mul, Int.emod_add_mul_ediv]
    rw [Int.mul_add]
    omega
  rw [e]
  generalize a % m * i + b % m * n = y
  generalize a / m * i + b / m * n = k
  refine decide_eq_decide.mpr ?_
  have h3 : m = 2 ∨ m = 3 ∨ m = 4 := by omega
  rcases h3 with z | z | z <;> subst z <;> omega
section
variable (K : PySem.W.Frag)
abbrev CA : Addr := He.ga K "AtLeast"
abbrev CR : Addr := He.ga K "Rest"
def af (q : Addr) : List (Str × V) := putF "straight" (.ref q) []
def rf (q : Addr) (m r : Int) : List (Str × V) := putF "rest" (.int r) (putF "modulus" (.int m) (putF "straight" (.ref q) []))
def AtlAt (H : Hp) (p : Addr) (a b c : Int) : Prop := ∃ dx q, H p = some (.ins (CA K) dx (af q)) ∧ StrAt K H q a b c
def RstAt (H : Hp) (p : Addr) (a b m r : Int) : Prop := ∃ dx q, H p = some (.ins (CR K) dx (rf q m r)) ∧ StrAt K H q a b 0
end
theorem sm_ : ¬ (("straight" : Str) = "modulus") := by decide +kernel
theorem sr_ : ¬ (("straight" : Str) = "rest") := by decide +kernel
theorem mr_ : ¬ (("modulus" : Str) = "rest") := by decide +kernel
theorem af_s (q : Addr) : (af q).lookup ("straight" : Str) = some (.ref q) := by
  unfold af
  rw [lookup_putF, if_pos rfl]
theorem rf_s (q : Addr) (m r : Int) : (rf q m r).lookup ("straight" : Str) = some (.ref q) := by
  unfold rf
  rw [lookup_putF, if_neg sr_, lookup_putF, if_neg sm_, lookup_putF, if_pos rfl]
theorem rf_m (q : Addr) (m r : Int) : (rf q m r).lookup ("modulus" : Str) = some (.int m) := by
  unfold rf
  rw [lookup_putF, if_neg mr_, lookup_putF, if_pos rfl]
theorem rf_r (q : Addr) (m r : Int) : (rf q m r).lookup ("rest" : Str) = some (.int r) := by
  unfold rf
  rw [lookup_putF, if_pos rfl]
theorem rf_no (q : Addr) (k r : Int) {m : Str} (h1 : ¬ m = "straight") (h2 : ¬ m = "modulus") (h3 : ¬ m = "rest") : (rf q k r).lookup m = none := by
  unfold rf
  rw [lookup_putF, if_neg h3, lookup_putF, if_neg h2, lookup_putF, if_neg h1]
  rfl
variable {K : PySem.W.Frag}
theorem AtlAt.same {H H' : Hp} {p : Addr} {a b c : Int} (h : AtlAt K H p a b c) (s : Same H H') : AtlAt K H' p a b c := by
  obtain ⟨dx, q, h, h2⟩ := h
  exact ⟨dx, q, s _ _ h, h2.same s⟩
theorem RstAt.same {H H' : Hp} {p : Addr} {a b m r : Int} (h : RstAt K H p a b m r) (s : Same H H') : RstAt K H' p a b m r := by
  obtain ⟨dx, q, h, h2⟩ := h
  exact ⟨dx, q, s _ _ h, h2.same s⟩
section
variable (K : PySem.W.Frag)
def NewA (H : Hp) (a b c : Int) (Q : VK) : Prop := ∀ p H', Same H H' → AtlAt K H' p a b c → Q (.ref p) H'
def NewR (H : Hp) (a b m r : Int) (Q : VK) : Prop := ∀ p H', Same H H' → RstAt K H' p a b m r → Q (.ref p) H'
def spIntFrom : Sp := fun vs H Q _ => ∃ v lo hi : Int, vs = [.int v, .int lo, .int hi] ∧ Q (.bl (decide (lo ≤ v ∧ v ≤ hi))) H
def spAI : Sp := fun vs H Q _ => ∃ (p dx : Addr) (v : V) (a b c : Int), vs = [.ref p, v] ∧ H p = some (.ins (CA K) dx []) ∧ SumV K H v a b c ∧ g2 a b < 1073741824 ∧
  ∀ q H', H' p = some (.ins (CA K) dx (af q)) → StrAt K H' q (a.fdiv (g2 a b)) (b.fdiv (g2 a b)) (lf3 a b c) → Keep p H H' → Q .non H'
/-- what Rest(v, m, r) asks -/
def rRst (v : V) (m r : Int) (H : Hp) (ok : Int → Int → Int → Prop) (E : XK) : Prop := ∃ a b c, SumV K H v a b c ∧ (¬ (2 ≤ m ∧ m ≤ 4) → BadN K H "modulus" (.int m) E) ∧ (2 ≤ m → m ≤ 4 → ¬ (0 ≤ r ∧ r ≤ m - 1) → BadN K H "rest" (.int r) E) ∧ (2 ≤ m → m ≤ 4 → 0 ≤ r → r ≤ m - 1 → ok a b c)
def spRI : Sp := fun vs H Q E => ∃ (p dx : Addr) (v : V) (m r : Int), vs = [.ref p, v, .int m, .int r] ∧ H p = some (.ins (CR K) dx []) ∧
  rRst K v m r H (fun a b c => ∀ q H', H' p = some (.ins (CR K) dx (rf q m ((r - c).fmod m))) → StrAt K H' q (a.fmod m) (b.fmod m) 0 → Keep p H H' → Q .non H') E
end
end Z
set_option maxHeartbeats 4000000
namespace Z
open PySem PySem.Spec PyProof.Rows L2
section
variable {prog : Program} {w : World} {A : Around} {E : Value → Shared → Prop} {s : Shared} {x C : Addr} {K : PySem.W.Frag} {ox : Obj} {od : Option Obj} {name : Str} {pl : Sem Bool} {Q : Value × List Value → Shared → Prop}
/-- x.m(..) where m is no name of the class: what the field holds is called -/
theorem method_fld (X : K.In s.heap) (I : PySem.W.InstAt s.heap x ox C od) (hga : PySem.W.findIn K (.ref C) "__getattribute__" = some (some (.builtin "object.__getattribute__"))) (hk : PySem.W.findIn K (.ref C) "__getattr__" = some none)
    (hf : PySem.W.findIn K (.ref C) name = some none) (h : wpAny (model prog w) A (getAttr (.ref x) name) (fun u s' => Q (u, []) s') E s) : wpAny (model prog w) A (getMethod (.ref x) name pl) Q E s := by
  have hcan := PySem.F.canon_object_ga
  unfold getMethod specialOf
  refine wpAny_bind (wpAny_bind (I.type.here ((PySem.W.looks_findIn X hga).here ?_)))
  dsimp only
  rw [hcan, if_neg (by decide)]
  refine wpAny_bind (wpAny_bind (I.type.here ((PySem.W.looks_findIn X hk).here ?_)))
  refine wpAny_bind (wpAny_bind (I.type.here ((PySem.W.looks_findIn X hf).here ?_)))
  exact wpAny_bind (wpAny_mono h (fun u s' q => wpAny_pure q) fun _ _ z => z)
end
section
variable {X : Cx} {CX : CXT} {k : Nat} {g C2 : Addr} {sp : Sp} {E : XK} {o e : Expr} {es : List Expr} {m : Str} {apos pos : Pos} {ta : TE} {t : TA} {pl : Sem Bool}
/-- o.f(e, ..), f a field that holds an instance of C2 -/
def tFCall (X : Cx) (C2 : Addr) (m : Str) (sp : Sp) (E : XK) (ta : TE) (t : TA) : TE := fun σ H Q => ta σ H fun x H1 => ∃ a C dx fs q, x = .ref a ∧ H1 a = some (.ins C dx fs) ∧ Cls X.K C ∧ NoAttr X.K C m ∧ fs.lookup m = some (.ref q) ∧ t σ H1 fun vs H2 => (∃ dx fs, H2 q = some (.ins C2 dx fs)) ∧ sp (.ref q :: vs) H2 Q E
theorem pe_fcall (he : PE X o ta) (c : StX.CallO X.K C2 g) (F : FnR X.prog X.w X.K X.mg X.base CX k g sp) (hr : Room k X.A) (hx : Passes CX X E) (ha : PA X (e :: es) t)
    (ht : eval (.Call (.Attribute o m apos) (e :: es) [] pos) X.env = (do
      let ov ← eval o X.env
      standAt apos.atName
      let (f, first) ← holding [ov] (getMethod ov m pl)
      callWith pos f first (backTo pos (starEach (e :: es) X.env)) (backToKw pos (keywordEach [] X.env))) := by rfl)
    (hst : starEach (e :: es) X.env = (false, eval e X.env) :: starEach es X.env := by rfl) (hpl : (backTo pos (starEach es X.env)).any (·.1) = false := by rfl) :
    PE X (.Call (.Attribute o m apos) (e :: es) [] pos) (tFCall X C2 m sp E ta t) := by
  refine ⟨fun pins s σ H Q I h => ?_⟩
  refine PySem.W.methodCall_KW (pl := pl) (thn (he.run pins s σ H _ I h) fun u s1 ⟨x, H1, I1, rx, a, C, dx, fs, q, ex, ea, cl, na, l, q1⟩ => ?_) ht
  subst ex
  obtain rfl : u = Value.ref a := rx
  obtain ⟨od, J⟩ := ins_at I1 ea
  refine method_fld I1.kIn J (PySem.W.plainGet_of (cl.get m)).1 (PySem.W.plainGet_of (cl.get m)).2 na (getattr_ok I1 ea cl na l fun u' s2 I2 ru => ?_)
  obtain rfl : u' = Value.ref q := ru
  refine StX.callO_with (thn (ha.run pos pins s2 σ H1 _ I2 q1) fun us s3 ⟨vs, H2, I3, r, hi, q2⟩ => ?_) hst hpl
  have hi2 : StX.InsC X H2 q C2 := .inr hi
  obtain ⟨ox, od, J, hd⟩ := StX.insC_at I3 hi2
  exact ⟨⟨C2, ox, od, J, hd⟩, StX.run_callO c F hr hx I3 hi2 r q2⟩
end
end Z
namespace Z
open PySem PySem.Spec PyProof.Rows L2
end Z
set_option maxHeartbeats 4000000
namespace Z
open PySem PySem.Spec PyProof.Rows L2
/-- the ends of a suite behind which slot i is bare -/
def bare (i : Nat) (D : Ends) : Ends := { nx := fun σ' H' => D.nx (σ'.set i none) H', rt := D.rt, bk := fun σ' H' => D.bk (σ'.set i none) H', ct := fun σ' H' => D.ct (σ'.set i none) H' }
abbrev Clause : Type := Value × Nat × (Addr → Value → Option Addr → TS)
def wClauses (K : PySem.W.Frag) (Wout : WX) (D : Ends) : List Clause → WX
  | [] => Wout
  | q :: r => fun cls d σ H => ∃ b, PySem.W.exmOne K cls q.1 = some b ∧ (b = true → ∀ a, H a = none → q.2.2 a cls d (bare q.2.1 D) (σ.set q.2.1 (some (.ref a))) H) ∧ (b = false → wClauses K Wout D r cls d σ H)
inductive Clauses (X : Cx) : List ExceptHandler → List Clause → Prop
  | nil : Clauses X [] []
  | cons {x n : Str} {c : Value} {i : Nat} {ts : Addr → Value → Option Addr → TS} {b₀ : Stmt} {suite : List Stmt} {np q : Pos} {hds : List ExceptHandler} {l : List Clause} (hi : X.N[i]? = some n) (hl : X.env.kindOf n = some .local) (hc : Names X x c)
      (hsu : ∀ (a : Addr) (oe : Obj) (cls : Value) (d : Option Addr) (pn : List (Addr × Obj)), Zc cls d oe → (∃ vs, oe.data = .fields vs) → PSs (X.suite a ((a, oe) :: pn)) (b₀ :: suite) (ts a cls d)) (r : Clauses X hds l) :
      Clauses X (.ExceptHandler (some (.Name x np)) (some n) (b₀ :: suite) q :: hds) ((c, i, ts) :: l)
section
variable {X : Cx} {body : List Stmt} {h₀ : ExceptHandler} {hds : List ExceptHandler} {l : List Clause} {pos : Pos} {tb : WX → TS} {Wout : WX}
theorem ps_try_asMany (hs : X.stack = X.env :: X.outer) (hf : X.env.frame = some X.env.locals) (hN : X.N.Nodup) (tk : Takes X Wout)
    (hb : ∀ (W : WX) (pn : List (Addr × Obj)) (xe : Value → Shared → Prop), Takes (X.tr pn xe) W → PassesOwn (model X.prog X.w) X.A X.env xe → PSs (X.tr pn xe) body (tb W))
    (hh : Clauses X (h₀ :: hds) l) : PS X (.Try body (h₀ :: hds) [] [] pos) (fun D σ H => tb (wClauses X.K Wout D l) D σ H) := by
  refine ⟨fun pins s σ H D I h => ?_⟩
  have ok := I.ok
  have frm : X.A.frames = some (X.env :: X.outer) := ok.frames.trans (congrArg some hs)
  have out : ∀ {f : Flow} {s1 : Shared}, SP (X.tr (X.pn ++ pins) (fun e s₁ => wpAny (model X.prog X.w) X.A (noteFrame e X.env) (fun _ s₂ => wpAny (model X.prog X.w) X.A (setFlight e none) (fun _ s₃ => wpAny (model X.prog X.w) X.A (handleBy e X.env (h₀ :: hds)) (SP X pins D) X.xe s₃) X.xe s₂) X.xe s₁)) [] D f s1 → SP X pins D f s1 := by
    intro f s1 z
    cases f with
    | next => exact z.elim fun σ' z => z.elim fun H' z => ⟨σ', H', z.1.ofTry ok, z.2⟩
    | brk => exact z.elim fun σ' z => z.elim fun H' z => ⟨σ', H', z.1.ofTry ok, z.2⟩
    | cont => exact z.elim fun σ' z => z.elim fun H' z => ⟨σ', H', z.1.ofTry ok, z.2⟩
    | ret u => exact z.elim fun v z => z.elim fun σ' z => z.elim fun H' z => ⟨v, σ', H', z.1.ofTry ok, z.2⟩
  refine wpAny_Try_except (wpAny_mono ((hb (wClauses X.K Wout D l) (X.pn ++ pins) _ (fun u s' xx => ?_) PassesOwn.looking).run [] s σ H D (I.toTry _) h) (fun f s1 z => ?_) fun e s1 he => he)
  · obtain ⟨a, B, sI, pins', σ', H', cls, d, rfl, J', nb, up, sky, na, os, ag, w⟩ := xx
    have J : Inv X pins σ' H' sI := J'.ofTry ok
    have sky' : Sky B (X.env :: X.outer) a (Zc cls d) X.env.locals s'.heap := hs ▸ sky
    show wpAny (model X.prog X.w) X.A (noteFrame (.ref a) X.env) _ _ _
    refine Sky.land Zc.steady frm hf sky' fun h3 fl3 up3 => ?_
    have up13 := up.trans up3
    obtain ⟨oe3, vs3, he3, hz3, hd3⟩ := fl3.there
    have J3 : Inv X pins σ' H' { s' with heap := h3 } := J.landed nb fl3.1 up13 os ag
    have far : a ∉ frs (X.env :: X.outer) := fun hm => (fl3.2.2.1.mem hm).elim fun _ z => z.elim fun o' z => by
      have e' := z.1
      rw [he3] at e'
      exact z.2 _ (Option.some.inj e' ▸ hd3)
    have nL : a ≠ X.env.locals := fun z => far (List.mem_filterMap.mpr ⟨X.env, .head _, by rw [hf, z]⟩)
    have nF : a ∉ X.fs := fun hm => (List.mem_filterMap.mp hm).elim fun e z => far (List.mem_filterMap.mpr ⟨e, .tail _ z.1, z.2⟩)
    have S3 := J3.suite he3 hd3 na nL nF
    have tyE : PySem.W.Looks (model X.prog X.w) h3 (typeOf (.ref a)) cls := fun A Q E s k q => wpAny_typeOf_ref (k _ _ he3) (by rw [hz3.1]; exact q)
    suffices walk : ∀ {hds' : List ExceptHandler} {l' : List Clause}, Clauses X hds' l' → wClauses X.K Wout D l' cls d σ' H' → wpAny (model X.prog X.w) X.A (handleBy (.ref a) X.env hds') (SP X pins D) X.xe { s' with heap := h3 } from walk hh w
    intro hds' l' hk
    induction hk with
    | nil =>
      intro w
      refine wpAny_handleBy_nil ?_
      obtain ⟨k1, k2, k3, oe, vs, T, oT, ts', he, hz, hd, h1, hr⟩ := id fl3
      unfold PySem.passOn
      refine wpAny_bind (wpAny_field he hd h1 ?_)
      rw [if_neg (show ¬ ((Value.ref T == Value.none) = true) from by simp)]
      have fin : wpAny (model X.prog X.w) X.A (setFlight (.ref a) X.env.frame) (fun _ s4 => wpAny (model X.prog X.w) X.A (throw (.ref a) : Sem Flow) (SP X pins D) X.xe s4) X.xe { s' with heap := h3 } := by
        rw [hf]
        exact HandSPX.setFlight_upZ fl3 fun h4 hh4 up4 => wpAny_throw (tk _ _ ⟨a, B, sI, pins, σ', H', cls, d, rfl, J, nb, up13.trans up4, .inr (.inr (by rw [hs]; exact hh4)), na, os, ag, w⟩)
      first
        | exact wpAny_bind (wpAny_pure (wpAny_bind fin))
        | exact wpAny_bind fin
    | @cons x n c i ts b₀ suite np q hds2 l2 hi hln hc hsu r ih =>
      intro w
      obtain ⟨b, hb1, hyes, hno⟩ := w
      have LM := PySem.W.exm_one (M := model X.prog X.w) (J3.kIn) tyE hb1
      refine wpAny_handleBy_cons (codeAny_handlers_test ?_) (by intro q; cases q)
      have nm : ∀ {Q : Value → Shared → Prop} {E : Value → Shared → Prop}, Q c { s' with heap := h3 } → wpAny (model X.prog X.w) (X.A.mark (some (.ref a))) (eval (.Name x np) X.env) Q E { s' with heap := h3 } := fun {Q E} y => by
        rcases hc with ⟨g1, g2, m1 | ⟨m1, m2, m3⟩⟩
        · exact ld_glob (X := X.suite a ((a, oe3) :: (X.pn ++ pins))) S3 g1 m1 y g2
        · exact ld_blt (X := X.suite a ((a, oe3) :: (X.pn ++ pins))) S3 g1 m1 m2 y m3 g2
      refine nm (LM.here ?_)
      cases b with
      | false => exact ih (hno rfl)
      | true =>
        refine codeAny_handlers_suite_as (HandSPX.lands_againZ fl3 fun h4 fl4 up4 => ?_)
        obtain ⟨oe4, vs4, he4, hz4, hd4⟩ := fl4.there
        have S4 := (J.landed nb fl4.1 (up13.trans up4) os ag : Inv X pins σ' H' { s' with heap := h4 }).suite he4 hd4 na nL nF
        refine store_ok (X := X.suite a ((a, oe4) :: (X.pn ++ pins))) (v := .ref a) S4 hN hi (.inl hln) rfl (fun s5 S5 => ?_) (.inr hln)
        refine wpAny_mono ((hsu a oe4 cls d (X.pn ++ pins) hz4 ⟨_, hd4⟩).run [] s5 _ H' _ S5 (hyes rfl a na)) (fun f s6 hsp => ?_) (fun _ _ z => z.elim)
        have end_ : ∀ {σ6 : L2.St} {H6 : Hp} {Q : Shared → Prop}, Inv (X.suite a ((a, oe4) :: (X.pn ++ pins))) [] σ6 H6 s6 → (∀ s7, Inv X pins (σ6.set i none) H6 s7 → Q s7) →
            wpAny (model X.prog X.w) X.A (do bindName X.env n .none; unbindBehindTheSuite X.env n q) (fun _ s7 => Q s7) X.xe s6 := fun {σ6 H6 Q} S6 hq => gone_ok (S6.unsuite ok) hN hi hln hq
        cases f with
        | ret u => exact hsp.elim fun v z => z.elim fun σ6 z => z.elim fun H6 z => end_ z.1 fun s7 J7 => ⟨_, _, _, J7, z.2.1, z.2.2⟩
        | next => exact hsp.elim fun σ6 z => z.elim fun H6 z => end_ z.1 fun s7 J7 => ⟨_, _, J7, z.2⟩
        | brk => exact hsp.elim fun σ6 z => z.elim fun H6 z => end_ z.1 fun s7 J7 => ⟨_, _, J7, z.2⟩
        | cont => exact hsp.elim fun σ6 z => z.elim fun H6 z => end_ z.1 fun s7 J7 => ⟨_, _, J7, z.2⟩
  · have z2 := out z
    cases f with
    | next => exact wpAny_execs_nil z2
    | brk => exact z2
    | cont => exact z2
    | ret u => exact z2
end
end Z
set_option maxHeartbeats 4000000
namespace Z
open PySem PySem.Spec PyProof.Rows L2
inductive Er where
  | num (w : Str) (v : Int)
  | many (w : Str) (m l : Int)
  | name (x : Str)
def Er.cls (K : PySem.W.Frag) : Er → Addr
  | .num _ _ => He.ga K "BadNumber"
  | .many _ _ _ => He.ga K "TooMany"
  | .name _ => He.ga K "BadName"
def Er.fs : Er → List (Str × V)
  | .num w v => [("number", .int v), ("what", .str w)]
  | .many w m l => [("limit", .int l), ("many", .int m), ("what", .str w)]
  | .name x => [("name", .str x)]
section
variable (K : PySem.W.Frag)
/-- the error is raised, all else as it was -/
def Rz (H : Hp) (E : XK) (e : Er) : Prop := ∀ d H', Same H H' → H' d = some (.xd e.fs) → E (.ref (e.cls K)) (some d) H'
/-- .. but for the object at p -/
def RzK (p : Addr) (H : Hp) (E : XK) (e : Er) : Prop := ∀ d H', Keep p H H' → H' d = some (.xd e.fs) → E (.ref (e.cls K)) (some d) H'
end
/-- the first error of all, or what follows -/
def Out (o : Option Er) (r : Er → Prop) (q : Prop) : Prop := (∀ e, o = some e → r e) ∧ (o = none → q)
theorem Out.none {r : Er → Prop} {q : Prop} (h : q) : Out none r q := ⟨fun _ z => (by cases z), fun _ => h⟩
theorem Out.ok {o : Option Er} {r : Er → Prop} {q : Prop} (h : o = Option.none) (k : q) : Out o r q := ⟨fun _ z => (by rw [h] at z; cases z), fun _ => k⟩
theorem Out.or {o1 o2 : Option Er} {r r1 : Er → Prop} {q q1 : Prop} (h : Out (o1.or o2) r q) (hr : ∀ e, r e → r1 e) (k : Out o2 r q → q1) : Out o1 r1 q1 := by
  refine ⟨fun e z => hr e (h.1 e (by rw [z]; rfl)), fun z => k ?_⟩
  subst z
  exact h
theorem Out.end_ {o1 : Option Er} {r r1 : Er → Prop} {q q1 : Prop} (h : Out o1 r q) (hr : ∀ e, r e → r1 e) (k : q → q1) : Out o1 r1 q1 := ⟨fun e z => hr e (h.1 e z), fun z => k (h.2 z)⟩
section
variable {K : PySem.W.Frag} {H H1 : Hp} {E : XK} {e : Er} {p : Addr}
theorem Rz.same (h : Rz K H E e) (s : Same H H1) : Rz K H1 E e := fun d H' s' hd => h d H' (s.trans s') hd
theorem RzK.rz (h : RzK K p H E e) (k : Keep p H H1) : Rz K H1 E e := fun d H' s' hd => h d H' (fun b o nb eb => s' _ _ (k b o nb eb)) hd
end
def ckN (w : Str) (v lo hi : Int) : Option Er := if lo ≤ v ∧ v ≤ hi then none else some (.num w v)
def ckM (w : Str) (m l : Int) : Option Er := if m ≤ l then none else some (.many w m l)
def ckS (a b c : Int) : Option Er := (ckN "i" a (-12) 12).or ((ckN "n" b (-12) 12).or (ckN "one" c (-999) 999))
def ckP (a b c d : Int) : Option Er := (ckS a b c).or (ckN "divisor" d 1 3)
def ckR (a b c d : Int) : Option Er := (ckN "i" a 0 0).or ((ckN "n" b 0 3).or ((ckN "one" c (-999) 999).or (ckN "divisor" d 1 3)))
def kept : List Str := ["for", "i", "from", "n", "below", "by", "down", "if", "and", "mod"]
def lets : Str := "abcdefghijklmnopqrstuvwxyz"
def isName (x : Str) : Bool := decide (1 ≤ x.length ∧ x.length ≤ 8) && (x.cps.toList.all (fun c => decide (c ∈ lets.cps.toList)) && decide (x ∉ kept))
def ckA (x : Str) : Option Er := if isName x = true then none else some (.name x)
def ckRead (x : Str) (f a b c d : Int) : Option Er := (ckA x).or ((if f = 0 then some (.num "factor" f) else none).or ((ckN "factor" f (-999) 999).or (ckP a b c d)))
def ckCs : List (Int × Int × Int) → Option Er
  | [] => none
  | q :: r => (ckS q.1 q.2.1 q.2.2).or (ckCs r)
def ckStm (m1 m2 : Int) (x : Str) (cs : List (Int × Int × Int)) (a b c k : Int) : Option Er :=
  (ckM "reads" m1 3).or ((ckM "conditions" m2 3).or ((ckA x).or ((ckCs cs).or ((ckS a b c).or (ckN "constant" k (-999) 999)))))
def ckLoop (m S a1 b1 c1 d1 a2 b2 c2 d2 : Int) : Option Er :=
  (ckM "statements" m 16).or ((ckN "step" S 1 16).or ((ckR a1 b1 c1 d1).or ((ckR a2 b2 c2 d2).or (if 1 < S ∧ 1 < d1 then some (.num "step" S) else none))))
section
variable {X : Cx} {K : PySem.W.Frag} {mg : Str → Option Value} {k j n : Nat} {f C : Addr} {fd : FuncData} {ps ks : List Str} {sp : Sp} {E : L2.St → XK} {x : Str} {p pos : Pos} {e : Expr} {es : List Expr} {kws : List Keyword} {t tk : TA}
/-- a global def that may raise -/
def Dx (P : Program) (w : World) (K : PySem.W.Frag) (mg : Str → Option Value) (base : Heap) (j : Nat) (x : Str) (ps : List Str) (sp : Sp) : Prop :=
  ∃ (f : Addr) (fd : FuncData), FnOk P w K mg base (L2.CX P w) j f fd ps sp ∧ mg x = some (.ref f) ∧ PySem.W.keepIn K (.ref f) = true ∧ Binds K fd ps []
theorem pe_dx (D : Dx X.prog X.w K X.mg X.base j x ps sp) (hK : X.K = K) (hr : Room k X.A) (hx : ∀ σ, PassesAt (L2.CX X.prog X.w) X σ (E σ)) (ha : PA X (e :: es) t) (hjk : j ≤ k := by decide) (hg : Gl X x := by rfl)
    (hdb : (x == ("__debug__" : Str)) = false := by decide) (he : starEach (e :: es) X.env = (false, eval e X.env) :: starEach es X.env := by rfl) (hpl : (backTo pos (starEach es X.env)).any (·.1) = false := by rfl) :
    PE X (.Call (.Name x p) (e :: es) [] pos) (tCallS sp E t) := by
  subst hK
  obtain ⟨f, fd, F, hm, hk, hb⟩ := D
  exact pe_callS F (hr.mono hjk) hg hm hk hb hx ha hdb he hpl
/-- the class C of the name x may be made: __init__ with its promise, and how its parameters are bound -/
structure Mc (P : Program) (w : World) (K : PySem.W.Frag) (mg : Str → Option Value) (base : Heap) (j : Nat) (x : Str) (f : Addr) (fd : FuncData) (ps : List Str) (sp : Sp) : Prop where
  mK : Mk K (He.ga K x) f
  gC : mg x = some (.ref (He.ga K x))
  fn : FnOk P w K mg base (L2.CX P w) j f fd ps sp
theorem make_run {CX : CXT} {pins : List (Addr × Obj)} {σ : L2.St} {H : Hp} {s : Shared} {Q : VK} {us : List Value} {kw : List (Str × Value)} {vz : List V} {uz : List Value} {E0 : XK} (M : Mk X.K C f) (F : FnOk X.prog X.w X.K X.mg X.base CX k f fd ps sp) (hr : Room (k + 1) X.A)
    (hx : PassesAt CX X σ E0) (I : L2.Inv X pins σ H s) (vals : ∀ a : Addr, Vals (V.ref a :: vz) (Value.ref a :: uz))
    (bind : ∀ (s' : Shared) (a : Addr), X.K.In s'.heap → BindsTo s' fd ⟨Value.ref a :: us, kw⟩ (ps.zip (Value.ref a :: uz)))
    (h : ∀ x dx, H x = none → H dx = none → dx ≠ x → sp (.ref x :: vz) (upd (upd H dx (.own x)) x (.ins C dx [])) (fun v H2 => v = .non ∧ Q (.ref x) H2) E0) :
    wpAny (model X.prog X.w) X.A (call (.ref C) us kw) (EP X pins σ Q) X.xe s := by
  have q0 := h (s.heap.objs.size + 1) s.heap.objs.size (I.hok.fresh (Nat.le_succ _)) (I.hok.fresh (Nat.le_refl _)) (Nat.ne_of_lt (Nat.lt_succ_self _))
  have J := Inv.made (C := C) I
  refine wpAny_call (make_map (f := f) I.kIn M.makes M.init (beq_iff_eq.mp M.fn) (codeAny_mono (F.run _ X.stack _ _ ⟨Value.ref (s.heap.objs.size + 1) :: us, kw⟩ (Value.ref (s.heap.objs.size + 1) :: uz) _ _ E0 (hr.make C us kw)
    (J.env0.make C us kw) (bind _ _ J.kIn) (vals _) q0) fun r' s' z => ?_))
  cases r' with
  | error e => exact hx pins _ _ e s' J z
  | ok fl =>
    cases fl with
    | ret u =>
      obtain ⟨v, H', I3, rv, ev, q3⟩ := J.after z
      subst ev
      exact ⟨rv, ⟨V.ref (s.heap.objs.size + 1), H', I3, rfl, q3⟩⟩
    | next => exact False.elim z
    | brk => exact False.elim z
    | cont => exact False.elim z
end
end Z
namespace Z
open PySem PySem.Spec PyProof.Rows L2
section
variable (K : PySem.W.Frag)
/-- Place(v, d), d of any size: only the common divisor must be small -/
def spPG : Sp := fun vs H Q E => ∃ (p dx : Addr) (v : V) (a b c d : Int), vs = [.ref p, v, .int d] ∧ H p = some (.ins (CP K) dx []) ∧ SumV K H v a b c ∧ (d < 1 → BadN K H "divisor" (.int d) E) ∧
  (1 ≤ d → gg a b d < 1073741824 ∧ ∀ q H', H' p = some (.ins (CP K) dx (pf q (d.fdiv (gg a b d)))) → StrAt K H' q (a.fdiv (gg a b d)) (b.fdiv (gg a b d)) (c.fdiv (gg a b d)) → Keep p H H' → Q .non H')
def rPlG (v : V) (d : Int) (H : Hp) (Q : VK) (E : XK) : Prop := ∃ a b c, SumV K H v a b c ∧ (d < 1 → BadN K H "divisor" (.int d) E) ∧ (1 ≤ d → gg a b d < 1073741824 ∧ NewP K H a b c d Q)
end
end Z
set_option maxHeartbeats 4000000
namespace Z
open PySem PySem.Spec PyProof.Rows L2
def txtOf (e : Int × Value) : Str := match e.2 with | .str k _ => k | _ => Str.empty
def Tx1 (w : World) (e : Int × Value) : Prop := ∃ k u, e.2 = Value.str k u ∧ e.1 = hashStr w k
structure TxBody (w : World) (l : List Str) (es : Array (Int × Value)) (t : SetTable) : Prop where
  one : ∀ e ∈ es.toList, Tx1 w e
  nd : (es.toList.map txtOf).Nodup
  mem : ∀ k, k ∈ l ↔ k ∈ es.toList.map txtOf
  few : es.size < scanBound
  fit : t.fits es.size = true
  ris : Ris t.place.toList
  led : w.params.followText "set-order" = true ∨ t.led = true
/-- the set at a has the texts of l -/
def TxSet (w : World) (h : Heap) (a : Addr) (l : List Str) : Prop := ∃ o es ep t, h.get? a = some o ∧ o.ExactSet ∧ o.data = .set es ep t ∧ TxBody w l es t
section
variable {P : Program} {w : World} {A : Around} {E : Value → Shared → Prop} {s : Shared} {a : Addr} {l : List Str}
theorem TxSet.at {h h' : Heap} (R : TxSet w h a l) (k : ∀ o, h.get? a = some o → h'.get? a = some o) : TxSet w h' a l := by
  obtain ⟨o, es, ep, t, ho, r⟩ := R
  exact ⟨o, es, ep, t, k o ho, r⟩
theorem tx_is {e : Int × Value} (g : Tx1 w e) (k : Str) : (PySem.strKind P w).is k e.2 = true ↔ txtOf e = k := by
  obtain ⟨k0, u, h1, _⟩ := g
  unfold txtOf
  rw [h1]
  show Value.isStrOf k (.str k0 u) = true ↔ k0 = k
  simp only [Value.isStrOf]
  constructor
  · intro z
    exact (of_decide_eq_true z)
  · intro z
    exact decide_eq_true z
theorem tx_elems {es : List (Int × Value)} (g : ∀ e ∈ es, Tx1 w e) : ElemsOf (PySem.strKind P w) es := fun e he => by
  obtain ⟨k, u, h1, h2⟩ := g e he
  exact ⟨⟨k, by rw [h1]; exact PySem.Froz.is_str k u, h2⟩, by rw [h1] <;> rfl⟩
theorem tx_mem {es : List (Int × Value)} (g : ∀ e ∈ es, Tx1 w e) (k : Str) : k ∈ es.map txtOf ↔ ∃ e ∈ es, (PySem.strKind P w).is k e.2 = true := by
  rw [List.mem_map]
  exact ⟨fun ⟨e, he, q⟩ => ⟨e, he, (tx_is (g e he) k).2 q⟩, fun ⟨e, he, q⟩ => ⟨e, he, (tx_is (g e he) k).1 q⟩⟩
theorem tx_perm {es es' : Array (Int × Value)} {t t' : SetTable} (B : TxBody w l es t) (p : es'.toList.Perm es.toList) (hf : t'.fits es'.size = true) (r : Ris t'.place.toList) (e : t'.led = t.led) : TxBody w l es' t' := by
  have sz : es'.size = es.size := by rw [← Array.length_toList, p.length_eq, Array.length_toList]
  exact ⟨fun x hx => B.one x (p.mem_iff.mp hx), (p.map txtOf).nodup_iff.mpr B.nd, fun k => (B.mem k).trans (p.map txtOf).mem_iff.symm, sz ▸ B.few, hf, r, B.led.imp id fun z => e.trans z⟩
theorem len_sub {α : Type} [DecidableEq α] : ∀ (m l : List α), m.Nodup → (∀ x ∈ m, x ∈ l) → m.length ≤ l.length
  | [], l, _, _ => Nat.zero_le _
  | x :: m, l, d, h => by
    obtain ⟨d1, d2⟩ := List.nodup_cons.mp d
    have q := len_sub m (l.erase x) d2 fun y hy => (List.mem_erase_of_ne (fun (z : y = x) => d1 (by rw [← z]; exact hy))).mpr (h y (.tail _ hy))
    have hx := List.length_erase_of_mem (h x (.head _))
    have hp := List.length_pos_of_mem (h x (.head _))
    simp only [List.length_cons]
    omega
theorem TxBody.size {es : Array (Int × Value)} {t : SetTable} (B : TxBody w l es t) : es.size ≤ l.length := by
  have q := len_sub (es.toList.map txtOf) l B.nd fun x hx => (B.mem x).2 hx
  rw [List.length_map, Array.length_toList] at q
  exact q
/-- the new entries are stored, the table laid anew where it is too full -/
theorem tx_store {g : Bool → Sem Unit} (hg : ∀ (b : Bool) (s₁ : Shared) (Q' : Unit → Shared → Prop), Q' () s₁ → wpAny (model P w) A (g b) Q' E s₁) {o : Obj} {es es1 : Array (Int × Value)} {ep : Nat} {t t2 : SetTable} {dm : Bool}
    {R : Option Bool → Shared → Prop} (ho : s.heap.get? a = some o) (hx : o.ExactSet) (hd : o.data = .set es ep t) (B : TxBody w l es1 t2) (k : ∀ h', Heap.SameBut a s.heap h' → TxSet w h' a l → R (some true) { s with heap := h' }) :
    wpAny (model P w) A (do
        storeSet a es1 t2
        if (!dm && t2.tooFull) = true then do
            g (relayAll t2 es1 (SetTable.grown es1.size)).2.2
            storeSet a (relayAll t2 es1 (SetTable.grown es1.size)).1 (relayAll t2 es1 (SetTable.grown es1.size)).2.1
            pure (some true)
          else pure (some true)) R E s := by
  have h1 := store_at (es' := es1) (t' := t2) ho hd
  have b1 := Heap.SameBut.update s.heap a (Obj.putSet es1 t2)
  refine wpAny_bind (wpAny_storeSet_of ho hd ?_ (fits_of_scanBound B.few))
  split
  · have pm := relayAll_perm t2 es1 (SetTable.grown es1.size)
    have B2 := tx_perm B pm (relayAll_fits t2 es1 (SetTable.grown es1.size)) (relayAll_ris t2 es1 (SetTable.grown es1.size)) (relayAll_led t2 es1 (SetTable.grown es1.size))
    refine wpAny_bind (hg _ _ _ (wpAny_bind (wpAny_storeSet_of h1 rfl (wpAny_pure ?_) (fits_of_scanBound B2.few))))
    exact k _ (b1.trans (Heap.SameBut.update _ a _)) ⟨_, _, _, _, store_at h1 rfl, hx, rfl, B2⟩
  · exact wpAny_pure (k _ b1 ⟨_, es1, _, t2, h1, hx, rfl, B⟩)
theorem tx_add {x : Str} {u : Tok} {Q : Bool → Shared → Prop} (R : TxSet w s.heap a l) (room : l.length + 1 < scanBound) (k : ∀ h' b, Heap.SameBut a s.heap h' → TxSet w h' a (x :: l) → Q b { s with heap := h' }) : wpAny (model P w) A (setAddHashed a (.str x u) (hashStr w x)) Q E s := by
  obtain ⟨o, es, ep, t, ho, hx, hd, B⟩ := R
  have hsz := B.size
  have key : (PySem.strKind P w).is x (.str x u) = true := PySem.Froz.is_str x u
  have el : ElemsOf (PySem.strKind P w) es.toList := tx_elems B.one
  have sc : (Value.str x u).scannable = true := rfl
  unfold setAddHashed setAddHashedIn
  refine wpAny_holding (wpAny_bind (wpAny_setState_of ho hd B.fit ?_))
  dsimp only
  rw [byScan_of sc B.few el]
  simp only [↓reduceIte]
  unfold setAddByScan
  refine wpAny_bind (wpAny_bind (wpAny_rule (wpAny_bind (wpAny_setScan_of (knd := PySem.strKind P w) (k := x) key ho hd B.fit el ?_))))
  cases fi : List.findIdx? (fun e => (PySem.strKind P w).is x e.2) es.toList with
  | some j =>
    dsimp only
    obtain ⟨hj, pj, _⟩ := List.findIdx?_eq_some_iff_getElem.mp fi
    have xin : x ∈ l := (B.mem x).2 ((tx_mem (P := P) B.one x).2 ⟨es.toList[j], List.getElem_mem hj, pj⟩)
    refine wpAny_pure (wpAny_pure (k s.heap _ (Heap.SameBut.refl a s.heap) ⟨o, es, ep, t, ho, hx, hd, B.one, B.nd, fun y => ?_, B.few, B.fit, B.ris, B.led⟩))
    rw [List.mem_cons, ← B.mem y]
    exact ⟨fun z => z.elim (fun e => e ▸ xin) id, .inr⟩
  | none =>
    dsimp only
    have xno : x ∉ es.toList.map txtOf := fun z => by
      obtain ⟨e, he, q⟩ := (tx_mem (P := P) B.one x).1 z
      have c := List.findIdx?_eq_none_iff.mp fi e he
      rw [q] at c
      cases c
    have gave : ∀ (b : Bool) {s₁ : Shared} {Q' : Unit → Shared → Prop}, Q' () s₁ → wpAny (model P w) A (match b with | true => rule "set.scan.the-table-gave-way" | false => pure ()) Q' E s₁ :=
      fun b s₁ Q' q => by cases b <;> first | exact wpAny_pure q | exact wpAny_rule q
    have pm := layNew_perm t es (hashStr w x) (.str x u)
    have f1 := layNew_fits t es (hashStr w x) (.str x u)
    have r1 := layNew_ris t es (hashStr w x) (.str x u) B.ris
    have l1 := layNew_led t es (hashStr w x) (.str x u)
    show wpAny _ _ _ _ _ _
    have eh : (PySem.strKind P w).hash x = hashStr w x := rfl
    generalize layNew t es (hashStr w x) (.str x u) = Z at pm f1 r1 l1 ⊢
    obtain ⟨es1, t1, dm, gv⟩ := Z
    dsimp only at pm f1 r1 l1 ⊢
    rw [Array.toList_push] at pm
    have pc : es1.toList.Perm ((hashStr w x, Value.str x u) :: es.toList) := pm.trans (List.perm_append_singleton _ _)
    have pk : (es1.toList.map txtOf).Perm (x :: es.toList.map txtOf) := pc.map txtOf
    have sz : es1.size = es.size + 1 := by rw [← Array.length_toList, pc.length_eq, List.length_cons, Array.length_toList]
    have B1 : ∀ t' : SetTable, t'.fits es1.size = true → Ris t'.place.toList → t'.led = t.led → TxBody w (x :: l) es1 t' := fun t' q1 q2 q3 => {
      one := fun e he => by
        rcases List.mem_cons.mp (pc.mem_iff.mp he) with z | z
        · exact ⟨x, u, by rw [z], by rw [z]⟩
        · exact B.one e z
      nd := pk.nodup_iff.mpr (List.nodup_cons.mpr ⟨xno, B.nd⟩)
      mem := fun y => by rw [pk.mem_iff, List.mem_cons, List.mem_cons, B.mem y]
      few := by omega
      fit := q1
      ris := q2
      led := B.led.imp id fun z => q3.trans z }
    refine wpAny_bind (gave _ ?_)
    split
    · refine wpAny_bind ?_
      rw [hashByValue_scannable 8 sc]
      refine wpAny_pure ?_
      refine tx_store (l := x :: l) ?_ ho hx hd (B1 _ ?_ ?_ ?_) ?_
      · intro b s₁ Q' q; cases b <;> first | exact wpAny_pure q | exact wpAny_rule q
      · first | (split <;> first | exact f1 | exact SetTable.fits_plain_off f1) | exact f1
      · first | (split <;> exact r1) | exact r1
      · first | (split <;> exact l1) | exact l1
      · intro h' sb r; dsimp only; exact wpAny_pure (k h' _ sb r)
    · refine wpAny_bind (wpAny_pure ?_)
      simp only [↓reduceIte]
      refine tx_store (l := x :: l) ?_ ho hx hd (B1 _ f1 r1 l1) ?_
      · intro b s₁ Q' q; cases b <;> first | exact wpAny_pure q | exact wpAny_rule q
      · intro h' sb r; dsimp only; exact wpAny_pure (k h' _ sb r)
theorem tx_new {h : Heap} (ho : h.get? a = some { cls := .type "set", dict := none, data := .set #[] 0 (.fresh 0 0 (!w.params.followText "set-order")) }) : TxSet w h a [] :=
  ⟨_, #[], 0, _, ho, ⟨rfl, rfl, rfl⟩, rfl, ⟨fun e he => by simp at he, by simp, fun k => by simp, by decide, rfl, List.Pairwise.nil, by
    show _ ∨ (!w.params.followText "set-order") = true
    cases w.params.followText "set-order"
    · exact .inr rfl
    · exact .inl rfl⟩⟩
/-- the loop by which the set takes the items -/
theorem tx_update {I : Addr} {fp wr : List Addr} {G : Array GenState → Array GenState → Prop} {n : Nat} {Pv : Nat → Value → Prop} {St : Nat → Shared → Prop} {R : Result → Shared → Prop} (W : WalksS P w A.in1 I fp wr G n Pv St) (S : Addr) (hS : S ∉ fp)
    (xs : List Str) (hn : n = xs.length) (few : xs.length + 1 < scanBound) (item : ∀ i v, Pv i v → ∃ k t, xs[i]? = some k ∧ v = .str k t) (j : Nat) :
    ∀ (i : Nat) (s : Shared), n - i = j → i ≤ n → St i s → TxSet w s.heap S (xs.take i).reverse →
      (∀ s', Moved (S :: wr) G s s' → TxSet w s'.heap S xs.reverse → R (.ok (.ret .none)) s') → codeAny (model P w) A (.builtin "set.update.loop" ⟨[.ref S, .ref I], []⟩) R s := by
  have hw : S ∉ wr := fun h => hS (W.sub _ h)
  have sub : ∀ b ∈ wr, b ∈ S :: wr := fun b hb => .tail _ hb
  induction j with
  | zero =>
    intro i s e hi st hs hR
    obtain rfl : i = n := by omega
    refine codeAny_builtin F.entry_set_update_loop ?_
    rw [Around.under_plainId F.plain_set_update_loop _]
    refine wpAny_bind (m := pyNext (.ref I)) (W.done s _ _ st fun s' hm => ?_)
    rw [List.take_of_length_le (Nat.le_of_eq hn.symm)] at hs
    exact wpAny_pure (hR s' (hm.mono sub) (hs.at fun o e => hm.heap S o hw e))
  | succ j ih =>
    intro i s e hi st hs hR
    have lt : i < n := by omega
    refine codeAny_builtin F.entry_set_update_loop ?_
    rw [Around.under_plainId F.plain_set_update_loop _]
    refine wpAny_bind (m := pyNext (.ref I)) (W.item i s _ _ lt st fun v s' hp st' hm => ?_)
    obtain ⟨z, t, hz, rfl⟩ := item i v hp
    have hs' := hs.at (h' := s'.heap) fun o e => hm.heap S o hw e
    refine wpAny_bind (m := holding [Value.str z t] (setAdd S (.str z t))) (wpAny_holding ?_)
    unfold setAdd
    refine wpAny_holding (wpAny_bind ((PySem.strKind P w).pyHash (k := z) (PySem.Froz.is_str z t) ?_))
    have len : (xs.take i).reverse.length = i := by
      rw [List.length_reverse, List.length_take]
      omega
    refine tx_add (s := { s' with toks := s'.toks + 1 }) hs' (by rw [len]; omega) fun h' b sb hs2 => ?_
    have nx : (xs.take (i + 1)).reverse = z :: (xs.take i).reverse := by
      rw [List.take_add_one, hz, List.reverse_append] <;> rfl
    refine wpAny_pure ⟨plainId_quiet F.plain_set_update_loop _, ih (i + 1) _ (by omega) lt (W.frame _ s' _ _ st' (Nat.le_succ _) fun c hc o e => (sb.2 c fun y => hS (y ▸ hc)).trans e) (by rw [nx]; exact hs2) fun s'' hm2 hs3 => ?_⟩
    exact hR s'' (Moved.trans W.gtrans ((hm.mono sub).then_heap (Nat.le_succ _) fun c o hc e => (sb.2 c fun y => hc (y ▸ .head _)).trans e) hm2) hs3
theorem tx_item : ∀ {us : List Value} {xs : List Str}, StrsAre us xs → ∀ (i : Nat) (v : Value), us[i]? = some v → ∃ k t, xs[i]? = some k ∧ v = .str k t
  | _, _, .nil, i, v, h => by simp at h
  | _, _, .cons y t r, 0, v, h => ⟨y, t, rfl, by simpa using h.symm⟩
  | _, _, .cons y t r, i + 1, v, h => by
    obtain ⟨k, t2, e1, e2⟩ := tx_item r i v (by simpa using h)
    exact ⟨k, t2, by simpa using e1, e2⟩
set_option maxHeartbeats 6400000 in
/-- set(xs) -/
theorem tx_call {l : Addr} {items : Array Value} (xs : List Str) {Q : Value → Shared → Prop} (hh : A.handled = none) (hl : s.heap.IsList l items) (hi : StrsAre items.toList xs) (few : xs.length + 1 < scanBound)
    (k : ∀ (h' : Heap) (tk : Nat), TxSet w h' s.heap.objs.size xs.reverse → (∀ b o, s.heap.get? b = some o → h'.get? b = some o) → Q (.ref s.heap.objs.size) { s with heap := h', toks := tk }) :
    wpAny (model P w) A (call (.type "set") [.ref l]) Q E s := by
  have hz : items.size = xs.length := by rw [← Array.length_toList, StrsAre.len_eq hi]
  obtain ⟨c, tl, hmro⟩ := F.called_set.mro
  have hmade := F.called_set.made
  have hsub := F.called_set.sub
  refine wpAny_call (codeAny_of_tree ?_)
  show wpAny _ _ (callAny (.type "set") _) _ _ _
  refine wpAny_pure ⟨Code.quiet_builtin _ (by decide +kernel), codeAny_builtin F.entry_type_call ?_⟩
  rw [Around.under_plain (weight_type_call_type "set" [.ref l] []) rfl]
  have h1 := F.called_set.notType
  have h2 := F.called_set.canCreate
  have hct := F.typeCall_set_1 (.ref l)
  repeat (any_goals (first | assumption | wp_step))
  obtain ⟨H0, eH0⟩ : ∃ H0 : Heap, H0 = s.heap.push { cls := .type "set", dict := none, data := .set #[] 0 (.fresh 0 0 (!w.params.followText "set-order")) } := ⟨_, rfl⟩
  refine codeAny_mono (code_set_led1 (.ref l) (E := E) (Q₁ := fun obj s₁ => obj = .ref s.heap.objs.size ∧ s₁ = { s with heap := H0 }) ⟨rfl, by rw [eH0]⟩) fun r s₁ hr => ?_
  have g0 : H0.get? s.heap.objs.size = some { cls := .type "set", dict := none, data := .set #[] 0 (.fresh 0 0 (!w.params.followText "set-order")) } := eH0 ▸ Heap.get?_push_size _ rfl
  have z0 : H0.objs.size = s.heap.objs.size + 1 := by rw [eH0, Heap.size_push]
  have k0 : ∀ b o, s.heap.get? b = some o → H0.get? b = some o := fun b o e => eH0 ▸ Heap.get?_push_of_some _ e
  cases r with
  | error e => exact hr
  | ok fl =>
    cases fl with
    | ret obj =>
      obtain ⟨rfl, rfl⟩ := hr
      have hT : Shared.TypeIs { s with heap := H0 } (.ref s.heap.objs.size) "set" := ⟨_, g0, rfl⟩
      have hli := F.called_set.init.lookup
      have hbi := F.called_set.init.bind (.ref s.heap.objs.size)
      repeat (any_goals (first | assumption | wp_step))
      refine codeAny_mono (codeAny_call_builtin (R := wants (fun r s₂ => r = .none ∧ ∃ h' tk, s₂ = { s with heap := h', toks := tk } ∧ TxSet w h' s.heap.objs.size xs.reverse ∧ ∀ b o, s.heap.get? b = some o → h'.get? b = some o) E)
        F.called_set.init.plain F.entry_set_init (check_set_init_1 hT ?_)) fun r₂ s₂ hr₂ => ?_
      · obtain ⟨⟨ocls, odict, odata, oslots⟩, hol, hcl, nl, hdl⟩ := hl
        simp only at hcl hdl
        subst hcl hdl
        have hol' : H0.get? l = some { cls := .type "list", dict := odict, data := .seq items nl, slots := oslots } := k0 _ _ hol
        have hsls := F.sub_list_set
        have hslf := F.sub_list_frozenset
        have hne : (Value.type "list" == Value.type "dict") = false := by decide
        have hl1 : H0.IsList l items := ⟨_, hol', rfl, nl, rfl⟩
        unfold Builtin.«set.__init__» noKeywords Builtin.Frozenset.updateFrom
        generalize hPI : pyIter = PI
        wp_walk
        subst hPI
        refine wpAny_pyIter_list hl1 (wpAny_bind (wpAny_runValue ?_))
        have lt : l < s.heap.objs.size := Heap.lt_size hol
        have hne : l ≠ H0.objs.size := by rw [z0]; exact Nat.ne_of_lt (Nat.lt_succ_of_lt lt)
        have hno : s.heap.objs.size ∉ [H0.objs.size, l] := by
          simp only [List.mem_cons, List.not_mem_nil, or_false, not_or, z0]
          exact ⟨Nat.ne_of_lt (Nat.lt_succ_self _), Nat.ne_of_gt lt⟩
        refine tx_update ((Walks.list (by simp [hh]) _ l hne items).toS) s.heap.objs.size hno xs hz few (fun i v hv => ?_) (items.size - 0) 0 _ (by omega) (Nat.zero_le _) ⟨⟨_, Heap.get?_push_size _ rfl, rfl, rfl⟩, (hl1.push _)⟩ (tx_new (Heap.get?_push_of_some _ g0)) ?_
        · exact tx_item hi i v (by rw [Array.getElem?_toList]; exact hv)
        · intro s' hm hs'
          obtain ⟨h', g', d', tk', os'⟩ := s'
          have eg : g' = s.gens := hm.gens
          have ed : d' = s.drawn := hm.drawn
          have eo : os' = s.os := hm.os
          subst eg ed eo
          refine wpAny_pure (wpAny_pure (M := model P w) ⟨rfl, h', tk', rfl, hs', fun b o e => ?_⟩)
          have lb : b < s.heap.objs.size := Heap.lt_size e
          refine hm.heap b o ?_ (Heap.get?_push_of_some _ (k0 _ _ e))
          simp only [List.mem_cons, List.not_mem_nil, or_false, not_or]
          exact ⟨Nat.ne_of_lt lb, by rw [z0]; exact Nat.ne_of_lt (Nat.lt_succ_of_lt lb)⟩
      · cases r₂ with
        | error e => exact hr₂
        | ok fl₂ =>
          cases fl₂ with
          | ret r =>
            obtain ⟨rfl, h', tk, rfl, hs', hk'⟩ := hr₂
            repeat (any_goals (first | assumption | wp_step))
            exact k _ _ hs' hk'
          | _ => exact hr₂.elim
    | _ => exact hr.elim
/-- sorted(found) -/
theorem tx_sorted {Q : Value → Shared → Prop} (R : TxSet w s.heap a l) (hh : A.handled = none)
    (k : ∀ s' p (out : Array Value) (c : Nat) (ys : List Str), (∀ b o, s.heap.get? b = some o → s'.heap.get? b = some o) → s'.gens = s.gens → s'.os = s.os → s.heap.objs.size ≤ p → s'.heap.get? p = some (seqObj "list" out c) →
      StrsAre out.toList ys → ys.Nodup → (∀ x, x ∈ ys ↔ x ∈ l) → sortedS ys = true → Q (.ref p) s') : wpAny (model P w) A (call (.builtin "sorted") [.ref a]) Q E s := by
  obtain ⟨o, es, ep, t, ho, hx, hd, B⟩ := R
  refine Calls.call_function_entry kind_sorted plain_sorted entry_sorted (args_sorted1 _) ?_
  unfold Builtin.«sorted»
  refine wpAny_bind (m := checkCount "sorted" 1 1 _) (wpAny_pure ?_)
  refine wpAny_bind (collect_set (A := A.in1) hh ⟨o, ho, hx.1, hd⟩ B.fit B.few B.ris B.led fun s1 vs k1 hz g1 o1 pm => ?_)
  have vl : vs.length = es.size := by rw [pm.length_eq, List.length_map, Array.length_toList]
  have h1 : ∀ v ∈ vs, ∃ k u, v = Value.str k u := fun v hv => by
    obtain ⟨e, he, q⟩ := List.mem_map.mp (pm.mem_iff.mp hv)
    obtain ⟨k, u, h1, _⟩ := B.one e he
    exact ⟨k, u, by rw [← q]; exact h1⟩
  have hS : StrsAre vs (vs.map fun v => txtOf (0, v)) := by
    clear pm vl
    induction vs with
    | nil => exact .nil
    | cons v vs ih =>
      obtain ⟨k, u, rfl⟩ := h1 v (.head _)
      exact .cons k u (ih fun v hv => h1 v (.tail _ hv))
  have pk : (vs.map fun v => txtOf (0, v)).Perm (es.toList.map txtOf) := by
    have q := pm.map fun v => txtOf (0, v)
    rw [List.map_map] at q
    exact q
  have few : vs.length ≤ sizeLine := by
    have := B.few
    rw [vl]
    exact fits_of_scanBound this
  refine wpAny_bind (wpAny_newList ?_ few)
  have hoL : (s1.heap.push (seqObj "list" vs.toArray 0)).get? s1.heap.objs.size = some (seqObj "list" vs.toArray 0) := Heap.get?_push_size _ rfl
  refine wpAny_bind (wpAny_holding (wpAny_call_entry slot_list_sort ⟨_, hoL, rfl⟩ entry_list_sort
    (list_sort_treeKAny strKind_oneLt hoL hS.keysOf (fun v₁ v₂ rest e => keyKind_strs (by rw [← e]; exact hS)) few fun st' hp hs => ⟨_, rfl, ?_⟩) (args_list_sort _)))
  obtain ⟨ys, a1, a2, a3⟩ := sorted_out_str hS hp hs
  obtain ⟨c, hc⟩ := sortedHeap_at (vs := vs) (out := (arrOf st').map (·.2)) hoL
  have pn : ys.Perm (es.toList.map txtOf) := a2.trans pk
  refine wpAny_pure ⟨_, rfl, k _ s1.heap.objs.size _ c ys (fun b u e => ?_) g1 o1 hz hc a1 (pn.nodup_iff.mpr B.nd) (fun x => by rw [pn.mem_iff, B.mem x]) a3⟩
  have q := k1 b u e
  have hlt := Heap.lt_size q
  show (sortedHeap (s1.heap.push (seqObj "list" vs.toArray 0)) s1.heap.objs.size vs _).get? b = some u
  rw [sortedHeap_old (Nat.ne_of_lt hlt) (by rw [Heap.size_push]; exact Nat.lt_succ_of_lt hlt)]
  exact Heap.get?_push_of_some _ q
end
def TxO (w : World) (a : Addr) (l : List Str) : HO := .ext fun h => TxSet w h a l
theorem txO_new {w : World} {P : Program} {H : Hp} {h : Heap} {a : Addr} {l : List Str} (R : TxSet w h a l) : ObjOk P w H h a (TxO w a l) := by
  have ⟨o, es, ep, t, ho, r⟩ := R
  refine ⟨R, ⟨o, ho⟩, fun h1 h2 p k => ?_⟩
  have ⟨o', es', ep', t', ho', r'⟩ := (show TxSet w h1 a l from p)
  exact ⟨o', es', ep', t', k o' ho', r'⟩
section
variable {X : Cx}
/-- set(xs), xs a list of texts -/
def rSetTx (K : PySem.W.Frag) (w : World) : List V → Hp → VK → Prop := fun vs H Q => ∃ (l : Addr) (xs : List Str), vs = [V.ref l] ∧ SqL K H l (xs.map V.str) ∧ xs.length + 1 < scanBound ∧ ∀ a, H a = none → Q (.ref a) (upd H a (TxO w a xs.reverse))
theorem cr_setTx (hc : X.calm = true) : CallR X (.type "set") (rSetTx X.K X.w) := by
  intro pins s σ H vs us Q I r h
  obtain ⟨l, xs, rfl, hl, few, q⟩ := h
  rw [Vals.ref1 r]
  obtain ⟨its, rv, pl, hz⟩ := I.list hl
  have hn : H s.heap.objs.size = none := I.hok.fresh (Nat.le_refl _)
  exact tx_call (P := X.prog) (w := X.w) xs (I.ok.hd hc) pl.isList (by simpa using rv.strs) few fun h' tk R k =>
    ⟨.ref s.heap.objs.size, upd H s.heap.objs.size (TxO X.w s.heap.objs.size xs.reverse), I.laid (t' := tk) k (Nat.le_refl _) (txO_new R), rfl, q _ hn⟩
/-- sorted(found) of such a set -/
def rSortedTx (w : World) : List V → Hp → VK → Prop := fun vs H Q => ∃ (a : Addr) (l : List Str), vs = [V.ref a] ∧ H a = some (TxO w a l) ∧ l.length ≤ 4096 ∧
  ∀ (ys : List Str) (p : Addr), ys.Nodup → (∀ x, x ∈ ys ↔ x ∈ l) → sortedS ys = true → H p = none → Q (.ref p) (upd H p (.lst (ys.map V.str)))
theorem cr_sortedTx (hc : X.calm = true) : CallR X (.builtin "sorted") (rSortedTx X.w) := by
  intro pins s σ H vs us Q I r h
  obtain ⟨a, l, rfl, ha, few, q⟩ := h
  have R : TxSet X.w s.heap a l := (I.hok a _ ha).1
  rw [Vals.ref1 r]
  refine tx_sorted (P := X.prog) R (I.ok.hd hc) fun s' p out c ys k g o hp hg hi nd mem srt => ?_
  have hlen : (ys.map V.str).length ≤ sizeLine := by
    rw [List.length_map, sizeLine_eq]
    have := len_sub ys l nd fun x hx => (mem x).1 hx
    omega
  have hn : H p = none := I.hok.fresh hp
  have J : Inv X pins σ (upd H p (.lst (ys.map V.str))) { s with heap := s'.heap, gens := s'.gens, drawn := s'.drawn, toks := s'.toks } :=
    I.call (ch := []) (Un.laid k hp hn) (I.hok.laid k hp ⟨hlen, out.toList, c, vals_of_strs hi, hg⟩) (by rw [g]; exact I.bare) (fun _ z => nomatch z)
  have e : s' = { s with heap := s'.heap, gens := s'.gens, drawn := s'.drawn, toks := s'.toks } := by
    cases s'
    cases s
    cases o
    rfl
  rw [e]
  exact ⟨.ref p, _, J, rfl, q ys p nd mem srt hn⟩
end
end Z
set_option maxHeartbeats 4000000
namespace Z
open PySem PySem.Spec PyProof.Rows L2
/-- a list or a tuple that is read -/
def SqA (K : PySem.W.Frag) (H : Hp) (a : Addr) (xs : List V) : Prop := SqL K H a xs ∨ SqT K H a xs
/-- a walk of a list or a tuple -/
def iAny (K : PySem.W.Frag) (tl : TE) : TI := fun σ H R => tl σ H fun x H1 => ∃ a, x = .ref a ∧ (((∃ xs, SqL K H1 a xs) ∧ R (Itl K a) H1) ∨ ((∃ xs, SqT K H1 a xs) ∧ R (Itt K a) H1))
theorem pi_any {X : Cx} {tg l : Expr} {tl : TE} (hl : PE X l tl) : PI X tg l (iAny X.K tl) := by
  refine ⟨fun pins s σ H R I h => thn (hl.run pins s σ H _ I h) fun v s1 ⟨x, H1, I1, r1, a, e, q⟩ => ?_⟩
  subst e
  cases r1
  have new : Inv X pins σ H1 s1 → H1 s1.heap.objs.size = none := fun I => I.hok.fresh (Nat.le_refl _)
  rcases q with ⟨⟨xs, hq⟩, q⟩ | ⟨⟨xs, hq⟩, q⟩
  · obtain ⟨its, rv, p, hz⟩ := I1.list hq
    refine wpAny_pyIter_list p.isList ⟨s1.heap.objs.size, [s1.heap.objs.size], _, _, H1, rfl, I1.kept (t' := s1.toks) fun b o e => Heap.get?_push_of_some _ e, turn_list a _, ⟨_, Heap.get?_push_size _ rfl, rfl, rfl⟩, fun b hb => ?_, q⟩
    rw [List.mem_singleton.mp hb]
    exact I1.fpOk (Nat.le_refl _) (new I1)
  · obtain ⟨its, rv, p, hz⟩ := I1.tuple hq
    refine wpAny_pyIter_tuple (show s1.heap.IsTuple a its.toArray from p) ⟨s1.heap.objs.size, [s1.heap.objs.size], _, _, H1, rfl, I1.kept (t' := s1.toks) fun b o e => Heap.get?_push_of_some _ e, turn_tuple a _, ⟨_, Heap.get?_push_size _ rfl, rfl, rfl⟩, fun b hb => ?_, q⟩
    rw [List.mem_singleton.mp hb]
    exact I1.fpOk (Nat.le_refl _) (new I1)
/-- a comprehension over the signs of a text -/
theorem lc_str {x : Str} {g : TG} {tt : TT} {te : TE} {vs : List Nat} {σ : L2.St} {H1 : Hp} {D : Addr} {Qd : Hp → Prop} (Pv : Nat → Hp → Prop) (h0 : Pv 0 (upd H1 D (.lst [])))
    (hs : ∀ i c H, x.cps[i]? = some c → Pv i H → g (.str ⟨#[c]⟩) (wipe σ vs) H fun σ2 H2 => wipe σ2 vs = wipe σ vs ∧ tt σ2 H2 fun b H3 =>
      if b = true then te σ2 H3 fun y H4 => ∃ acc, H4 D = some (.lst acc) ∧ acc.length < sizeLine ∧ Pv (i + 1) (upd H4 D (.lst (acc ++ [y]))) else Pv (i + 1) H3) (hd : ∀ H, Pv x.cps.size H → Qd H) :
    ∃ W : Nat → Nat → Hp → Prop, (∃ m, W 0 m (upd H1 D (.lst []))) ∧ ∀ i m H, W i m H →
      ((Its x).stop i H ∧ Qd H) ∨ ((Its x).go i H ∧ ∃ Nx : Hp → Prop, (∀ H', Nx H' → ∃ m', m' < m ∧ W (i + 1) m' H') ∧ ∀ v H', (Its x).yld i H v H' → g v (wipe σ vs) H' fun σ2 H2 => wipe σ2 vs = wipe σ vs ∧ tt σ2 H2 fun b H3 =>
        if b = true then te σ2 H3 fun y H4 => ∃ acc, H4 D = some (.lst acc) ∧ acc.length < sizeLine ∧ Nx (upd H4 D (.lst (acc ++ [y]))) else Nx H3) := by
  refine ⟨fun i m H => m = x.cps.size - i ∧ i ≤ x.cps.size ∧ Pv i H, ⟨x.cps.size, by simp, Nat.zero_le _, h0⟩, ?_⟩
  rintro i m H ⟨rfl, hi, p⟩
  rcases Nat.lt_or_ge i x.cps.size with lt | ge
  · refine .inr ⟨lt, Pv (i + 1), fun H' p' => ⟨x.cps.size - (i + 1), by omega, rfl, lt, p'⟩, fun v H' y => ?_⟩
    obtain ⟨rfl, c, hc, rfl⟩ := y
    exact hs i c _ hc p
  · obtain rfl : i = x.cps.size := by omega
    exact .inl ⟨Nat.le_refl _, hd H p⟩
end Z
namespace Z
open PySem PySem.Spec PyProof.Rows L2
theorem pe_fldK {X : Cx} {K : PySem.W.Frag} {e : Expr} {n : Str} {te : TE} {pos : Pos} (hK : X.K = K) (he : PE X e te) (hb : attributeBase e n X.env (eval e X.env) = eval e X.env := by rfl) : PE X (.Attribute e n pos) (tFld K te n) := by
  subst hK
  exact pe_fld he hb
end Z
set_option maxHeartbeats 4000000
namespace K35
open PySem PySem.Spec PyProof.Rows L2 Z
/-- the default object of a keyword-only parameter of Statement -/
def kwAt (x : Str) (K : PySem.W.Frag) : Addr := match K.lookup (He.fAd K ("Statement", some "__init__")) with
  | some ⟨_, _, .func fd, _⟩ => (match fd.kwdefaults with
    | .ref D => (match PySem.W.nsIn K D x with
      | some (some (.ref a)) => a
      | _ => 0)
    | _ => 0)
  | _ => 0
end K35
namespace K35
open PySem PySem.Spec PyProof.Rows L2 Z
def top (i : Nat) : Stmt := PySem.Challenge.pw_loopsize_k35_next_and_last_works_of_a_st.main.body.getD i (.Pass ⟨0, 0, 0, 0⟩)
abbrev s_wall : Stmt := top 1
abbrev s_is_integer : Stmt := top 17
abbrev s_is_integer_from : Stmt := top 18
abbrev s_is_size : Stmt := top 19
abbrev s_is_array_name : Stmt := top 20
abbrev s_check_loop : Stmt := top 22
abbrev s_check_statement : Stmt := top 23
abbrev s_check_size : Stmt := top 24
abbrev s_is_straight : Stmt := top 28
abbrev s_straight_like : Stmt := top 29
abbrev s_place_like : Stmt := top 30
abbrev s_value_of : Stmt := top 31
abbrev s_added : Stmt := top 32
abbrev s_done_turns : Stmt := top 39
abbrev s_narrowed : Stmt := top 40
abbrev s_is_done_in : Stmt := top 41
abbrev s_many_before : Stmt := top 42
abbrev s_many_of : Stmt := top 43
abbrev s_next_of_turns : Stmt := top 44
abbrev s_last_of_turns : Stmt := top 45
abbrev s_turns_of_loop : Stmt := top 47
abbrev s_turns_of : Stmt := top 48
abbrev s_works_before : Stmt := top 49
abbrev s_works_in : Stmt := top 50
abbrev s_work_at : Stmt := top 51
abbrev s_position_of : Stmt := top 52
abbrev s_turn_with : Stmt := top 53
abbrev s_number_at : Stmt := top 54
abbrev s_next_work : Stmt := top 55
abbrev s_last_work : Stmt := top 56
abbrev s_turns_from : Stmt := top 71
abbrev s_arrays_in : Stmt := top 72
abbrev s_check_many : Stmt := top 73
abbrev s_check_name : Stmt := top 74
abbrev s_check_number : Stmt := top 75
abbrev s_check_sum : Stmt := top 76
abbrev s_check_place : Stmt := top 77
abbrev s_check_range_place : Stmt := top 78
abbrev s_law_pen_of : Stmt := top 80
abbrev s_law_draw : Stmt := top 81
abbrev s_law_signed : Stmt := top 82
abbrev s_law_far : Stmt := top 83
abbrev s_law_name : Stmt := top 84
abbrev s_law_condition_row : Stmt := top 85
abbrev s_law_statement_row : Stmt := top 86
abbrev s_law_loop_row : Stmt := top 87
abbrev s_law_straight : Stmt := top 88
abbrev s_law_condition : Stmt := top 89
abbrev s_law_read : Stmt := top 90
abbrev s_law_statement : Stmt := top 91
abbrev s_law_bound : Stmt := top 92
abbrev s_law_loop : Stmt := top 93
abbrev s_law_program : Stmt := top 94
abbrev s_law_least : Stmt := top 95
abbrev s_law_turns : Stmt := top 96
abbrev s_law_holds : Stmt := top 97
abbrev s_law_done : Stmt := top 98
abbrev s_law_counters : Stmt := top 99
abbrev s_law_works : Stmt := top 100
abbrev s_law_span : Stmt := top 101
abbrev s_law_below : Stmt := top 102
abbrev s_law_many : Stmt := top 103
abbrev s_law_of_statement : Stmt := top 104
abbrev s_law_ahead : Stmt := top 105
abbrev s_law_turn_of : Stmt := top 106
abbrev s_law_number : Stmt := top 107
abbrev s_law_is_number : Stmt := top 108
abbrev s_law_refused : Stmt := top 109
abbrev s_law_own_before : Stmt := top 110
abbrev s_law_own_before_number : Stmt := top 111
abbrev s_law_is_own : Stmt := top 112
abbrev s_law_small_right : Stmt := top 113
abbrev s_law_far_right : Stmt := top 114
abbrev s_law : Stmt := top 115
abbrev iBadName__init__ : Stmt := inClass (top 4) 0
abbrev iBadNumber__init__ : Stmt := inClass (top 5) 0
abbrev iBadSize__init__ : Stmt := inClass (top 6) 0
abbrev iTooMany__init__ : Stmt := inClass (top 7) 0
abbrev iTooFar__init__ : Stmt := inClass (top 8) 0
abbrev iNoLoop__init__ : Stmt := inClass (top 9) 0
abbrev iNoStatement__init__ : Stmt := inClass (top 10) 0
abbrev iNoWork__init__ : Stmt := inClass (top 11) 0
abbrev iNoNumber__init__ : Stmt := inClass (top 12) 0
abbrev iStraight__init__ : Stmt := inClass (top 26) 0
abbrev iStraight__call__ : Stmt := inClass (top 26) 1
abbrev iPlace__init__ : Stmt := inClass (top 27) 0
abbrev iPlace__call__ : Stmt := inClass (top 27) 1
abbrev iAtLeast__init__ : Stmt := inClass (top 35) 0
abbrev iAtLeastholds : Stmt := inClass (top 35) 1
abbrev iRest__init__ : Stmt := inClass (top 36) 0
abbrev iRestholds : Stmt := inClass (top 36) 1
abbrev iRead__init__ : Stmt := inClass (top 67) 0
abbrev iStatement__init__ : Stmt := inClass (top 68) 0
abbrev iStatementis_done : Stmt := inClass (top 68) 1
abbrev iLoop__init__ : Stmt := inClass (top 69) 0
abbrev iLoopmany_turns : Stmt := inClass (top 69) 1
abbrev iLoopcounter_of : Stmt := inClass (top 69) 2
abbrev iLoopturn_of : Stmt := inClass (top 69) 3
abbrev iLoopleast_counter : Stmt := inClass (top 69) 4
abbrev iProgram__init__ : Stmt := inClass (top 70) 0
def d_wall : He.DefD := ⟨("_wall", none), "_wall", "_wall", defArgs s_wall, defBody s_wall, defScope s_wall, [], []⟩
def d_is_integer : He.DefD := ⟨("is_integer", none), "is_integer", "is_integer", defArgs s_is_integer, defBody s_is_integer, defScope s_is_integer, [], []⟩
def d_is_integer_from : He.DefD := ⟨("is_integer_from", none), "is_integer_from", "is_integer_from", defArgs s_is_integer_from, defBody s_is_integer_from, defScope s_is_integer_from, [], []⟩
def d_is_size : He.DefD := ⟨("is_size", none), "is_size", "is_size", defArgs s_is_size, defBody s_is_size, defScope s_is_size, [], []⟩
def d_is_array_name : He.DefD := ⟨("is_array_name", none), "is_array_name", "is_array_name", defArgs s_is_array_name, defBody s_is_array_name, defScope s_is_array_name, [], []⟩
def d_check_loop : He.DefD := ⟨("check_loop", none), "check_loop", "check_loop", defArgs s_check_loop, defBody s_check_loop, defScope s_check_loop, [], []⟩
def d_check_statement : He.DefD := ⟨("check_statement", none), "check_statement", "check_statement", defArgs s_check_statement, defBody s_check_statement, defScope s_check_statement, [], []⟩
def d_check_size : He.DefD := ⟨("check_size", none), "check_size", "check_size", defArgs s_check_size, defBody s_check_size, defScope s_check_size, [], []⟩
def d_is_straight : He.DefD := ⟨("is_straight", none), "is_straight", "is_straight", defArgs s_is_straight, defBody s_is_straight, defScope s_is_straight, [], []⟩
def d_straight_like : He.DefD := ⟨("straight_like", none), "straight_like", "straight_like", defArgs s_straight_like, defBody s_straight_like, defScope s_straight_like, [], []⟩
def d_place_like : He.DefD := ⟨("place_like", none), "place_like", "place_like", defArgs s_place_like, defBody s_place_like, defScope s_place_like, [], []⟩
def d_value_of : He.DefD := ⟨("value_of", none), "value_of", "value_of", defArgs s_value_of, defBody s_value_of, defScope s_value_of, [], []⟩
def d_added : He.DefD := ⟨("added", none), "added", "added", defArgs s_added, defBody s_added, defScope s_added, [], []⟩
def d_done_turns : He.DefD := ⟨("done_turns", none), "done_turns", "done_turns", defArgs s_done_turns, defBody s_done_turns, defScope s_done_turns, [], []⟩
def d_narrowed : He.DefD := ⟨("narrowed", none), "narrowed", "narrowed", defArgs s_narrowed, defBody s_narrowed, defScope s_narrowed, [], []⟩
def d_is_done_in : He.DefD := ⟨("is_done_in", none), "is_done_in", "is_done_in", defArgs s_is_done_in, defBody s_is_done_in, defScope s_is_done_in, [], []⟩
def d_many_before : He.DefD := ⟨("many_before", none), "many_before", "many_before", defArgs s_many_before, defBody s_many_before, defScope s_many_before, [], []⟩
def d_many_of : He.DefD := ⟨("many_of", none), "many_of", "many_of", defArgs s_many_of, defBody s_many_of, defScope s_many_of, [], []⟩
def d_next_of_turns : He.DefD := ⟨("next_of_turns", none), "next_of_turns", "next_of_turns", defArgs s_next_of_turns, defBody s_next_of_turns, defScope s_next_of_turns, [], []⟩
def d_last_of_turns : He.DefD := ⟨("last_of_turns", none), "last_of_turns", "last_of_turns", defArgs s_last_of_turns, defBody s_last_of_turns, defScope s_last_of_turns, [], []⟩
def d_turns_of_loop : He.DefD := ⟨("turns_of_loop", none), "turns_of_loop", "turns_of_loop", defArgs s_turns_of_loop, defBody s_turns_of_loop, defScope s_turns_of_loop, [], []⟩
def d_turns_of : He.DefD := ⟨("turns_of", none), "turns_of", "turns_of", defArgs s_turns_of, defBody s_turns_of, defScope s_turns_of, [], []⟩
def d_works_before : He.DefD := ⟨("works_before", none), "works_before", "works_before", defArgs s_works_before, defBody s_works_before, defScope s_works_before, [], []⟩
def d_works_in : He.DefD := ⟨("works_in", none), "works_in", "works_in", defArgs s_works_in, defBody s_works_in, defScope s_works_in, [], []⟩
def d_work_at : He.DefD := ⟨("work_at", none), "work_at", "work_at", defArgs s_work_at, defBody s_work_at, defScope s_work_at, [], []⟩
def d_position_of : He.DefD := ⟨("position_of", none), "position_of", "position_of", defArgs s_position_of, defBody s_position_of, defScope s_position_of, [], []⟩
def d_turn_with : He.DefD := ⟨("turn_with", none), "turn_with", "turn_with", defArgs s_turn_with, defBody s_turn_with, defScope s_turn_with, [], []⟩
def d_number_at : He.DefD := ⟨("number_at", none), "number_at", "number_at", defArgs s_number_at, defBody s_number_at, defScope s_number_at, [], []⟩
def d_next_work : He.DefD := ⟨("next_work", none), "next_work", "next_work", defArgs s_next_work, defBody s_next_work, defScope s_next_work, [], []⟩
def d_last_work : He.DefD := ⟨("last_work", none), "last_work", "last_work", defArgs s_last_work, defBody s_last_work, defScope s_last_work, [], []⟩
def d_turns_from : He.DefD := ⟨("turns_from", none), "turns_from", "turns_from", defArgs s_turns_from, defBody s_turns_from, defScope s_turns_from, [], []⟩
def d_arrays_in : He.DefD := ⟨("arrays_in", none), "arrays_in", "arrays_in", defArgs s_arrays_in, defBody s_arrays_in, defScope s_arrays_in, [], []⟩
def d_check_many : He.DefD := ⟨("check_many", none), "check_many", "check_many", defArgs s_check_many, defBody s_check_many, defScope s_check_many, [], []⟩
def d_check_name : He.DefD := ⟨("check_name", none), "check_name", "check_name", defArgs s_check_name, defBody s_check_name, defScope s_check_name, [], []⟩
def d_check_number : He.DefD := ⟨("check_number", none), "check_number", "check_number", defArgs s_check_number, defBody s_check_number, defScope s_check_number, [], []⟩
def d_check_sum : He.DefD := ⟨("check_sum", none), "check_sum", "check_sum", defArgs s_check_sum, defBody s_check_sum, defScope s_check_sum, [], []⟩
def d_check_place : He.DefD := ⟨("check_place", none), "check_place", "check_place", defArgs s_check_place, defBody s_check_place, defScope s_check_place, [], []⟩
def d_check_range_place : He.DefD := ⟨("check_range_place", none), "check_range_place", "check_range_place", defArgs s_check_range_place, defBody s_check_range_place, defScope s_check_range_place, [], []⟩
def d_law_pen_of : He.DefD := ⟨("_law_pen_of", none), "_law_pen_of", "_law_pen_of", defArgs s_law_pen_of, defBody s_law_pen_of, defScope s_law_pen_of, [], []⟩
def d_law_draw : He.DefD := ⟨("_law_draw", none), "_law_draw", "_law_draw", defArgs s_law_draw, defBody s_law_draw, defScope s_law_draw, [], []⟩
def d_law_signed : He.DefD := ⟨("_law_signed", none), "_law_signed", "_law_signed", defArgs s_law_signed, defBody s_law_signed, defScope s_law_signed, [], []⟩
def d_law_far : He.DefD := ⟨("_law_far", none), "_law_far", "_law_far", defArgs s_law_far, defBody s_law_far, defScope s_law_far, [], []⟩
def d_law_name : He.DefD := ⟨("_law_name", none), "_law_name", "_law_name", defArgs s_law_name, defBody s_law_name, defScope s_law_name, [], []⟩
def d_law_condition_row : He.DefD := ⟨("_law_condition_row", none), "_law_condition_row", "_law_condition_row", defArgs s_law_condition_row, defBody s_law_condition_row, defScope s_law_condition_row, [], []⟩
def d_law_statement_row : He.DefD := ⟨("_law_statement_row", none), "_law_statement_row", "_law_statement_row", defArgs s_law_statement_row, defBody s_law_statement_row, defScope s_law_statement_row, [], []⟩
def d_law_loop_row : He.DefD := ⟨("_law_loop_row", none), "_law_loop_row", "_law_loop_row", defArgs s_law_loop_row, defBody s_law_loop_row, defScope s_law_loop_row, [], []⟩
def d_law_straight : He.DefD := ⟨("_law_straight", none), "_law_straight", "_law_straight", defArgs s_law_straight, defBody s_law_straight, defScope s_law_straight, [], []⟩
def d_law_condition : He.DefD := ⟨("_law_condition", none), "_law_condition", "_law_condition", defArgs s_law_condition, defBody s_law_condition, defScope s_law_condition, [], []⟩
def d_law_read : He.DefD := ⟨("_law_read", none), "_law_read", "_law_read", defArgs s_law_read, defBody s_law_read, defScope s_law_read, [], []⟩
def d_law_statement : He.DefD := ⟨("_law_statement", none), "_law_statement", "_law_statement", defArgs s_law_statement, defBody s_law_statement, defScope s_law_statement, [], []⟩
def d_law_bound : He.DefD := ⟨("_law_bound", none), "_law_bound", "_law_bound", defArgs s_law_bound, defBody s_law_bound, defScope s_law_bound, [], []⟩
def d_law_loop : He.DefD := ⟨("_law_loop", none), "_law_loop", "_law_loop", defArgs s_law_loop, defBody s_law_loop, defScope s_law_loop, [], []⟩
def d_law_program : He.DefD := ⟨("_law_program", none), "_law_program", "_law_program", defArgs s_law_program, defBody s_law_program, defScope s_law_program, [], []⟩
def d_law_least : He.DefD := ⟨("_law_least", none), "_law_least", "_law_least", defArgs s_law_least, defBody s_law_least, defScope s_law_least, [], []⟩
def d_law_turns : He.DefD := ⟨("_law_turns", none), "_law_turns", "_law_turns", defArgs s_law_turns, defBody s_law_turns, defScope s_law_turns, [], []⟩
def d_law_holds : He.DefD := ⟨("_law_holds", none), "_law_holds", "_law_holds", defArgs s_law_holds, defBody s_law_holds, defScope s_law_holds, [], []⟩
def d_law_done : He.DefD := ⟨("_law_done", none), "_law_done", "_law_done", defArgs s_law_done, defBody s_law_done, defScope s_law_done, [], []⟩
def d_law_counters : He.DefD := ⟨("_law_counters", none), "_law_counters", "_law_counters", defArgs s_law_counters, defBody s_law_counters, defScope s_law_counters, [], []⟩
def d_law_works : He.DefD := ⟨("_law_works", none), "_law_works", "_law_works", defArgs s_law_works, defBody s_law_works, defScope s_law_works, [], []⟩
def d_law_span : He.DefD := ⟨("_law_span", none), "_law_span", "_law_span", defArgs s_law_span, defBody s_law_span, defScope s_law_span, [], []⟩
def d_law_below : He.DefD := ⟨("_law_below", none), "_law_below", "_law_below", defArgs s_law_below, defBody s_law_below, defScope s_law_below, [], []⟩
def d_law_many : He.DefD := ⟨("_law_many", none), "_law_many", "_law_many", defArgs s_law_many, defBody s_law_many, defScope s_law_many, [], []⟩
def d_law_of_statement : He.DefD := ⟨("_law_of_statement", none), "_law_of_statement", "_law_of_statement", defArgs s_law_of_statement, defBody s_law_of_statement, defScope s_law_of_statement, [], []⟩
def d_law_ahead : He.DefD := ⟨("_law_ahead", none), "_law_ahead", "_law_ahead", defArgs s_law_ahead, defBody s_law_ahead, defScope s_law_ahead, [], []⟩
def d_law_turn_of : He.DefD := ⟨("_law_turn_of", none), "_law_turn_of", "_law_turn_of", defArgs s_law_turn_of, defBody s_law_turn_of, defScope s_law_turn_of, [], []⟩
def d_law_number : He.DefD := ⟨("_law_number", none), "_law_number", "_law_number", defArgs s_law_number, defBody s_law_number, defScope s_law_number, [], []⟩
def d_law_is_number : He.DefD := ⟨("_law_is_number", none), "_law_is_number", "_law_is_number", defArgs s_law_is_number, defBody s_law_is_number, defScope s_law_is_number, [], []⟩
def d_law_refused : He.DefD := ⟨("_law_refused", none), "_law_refused", "_law_refused", defArgs s_law_refused, defBody s_law_refused, defScope s_law_refused, [], []⟩
def d_law_own_before : He.DefD := ⟨("_law_own_before", none), "_law_own_before", "_law_own_before", defArgs s_law_own_before, defBody s_law_own_before, defScope s_law_own_before, [], []⟩
def d_law_own_before_number : He.DefD := ⟨("_law_own_before_number", none), "_law_own_before_number", "_law_own_before_number", defArgs s_law_own_before_number, defBody s_law_own_before_number, defScope s_law_own_before_number, [], []⟩
def d_law_is_own : He.DefD := ⟨("_law_is_own", none), "_law_is_own", "_law_is_own", defArgs s_law_is_own, defBody s_law_is_own, defScope s_law_is_own, [], []⟩
def d_law_small_right : He.DefD := ⟨("_law_small_right", none), "_law_small_right", "_law_small_right", defArgs s_law_small_right, defBody s_law_small_right, defScope s_law_small_right, [], []⟩
def d_law_far_right : He.DefD := ⟨("_law_far_right", none), "_law_far_right", "_law_far_right", defArgs s_law_far_right, defBody s_law_far_right, defScope s_law_far_right, [], []⟩
def d_law : He.DefD := ⟨("law", none), "law", "law", defArgs s_law, defBody s_law, defScope s_law, [], []⟩
def dBadName__init__ : He.DefD := ⟨("BadName", some "__init__"), "__init__", "BadName.__init__", defArgs iBadName__init__, defBody iBadName__init__, defScope iBadName__init__, [], []⟩
def dBadNumber__init__ : He.DefD := ⟨("BadNumber", some "__init__"), "__init__", "BadNumber.__init__", defArgs iBadNumber__init__, defBody iBadNumber__init__, defScope iBadNumber__init__, [], []⟩
def dBadSize__init__ : He.DefD := ⟨("BadSize", some "__init__"), "__init__", "BadSize.__init__", defArgs iBadSize__init__, defBody iBadSize__init__, defScope iBadSize__init__, [], []⟩
def dTooMany__init__ : He.DefD := ⟨("TooMany", some "__init__"), "__init__", "TooMany.__init__", defArgs iTooMany__init__, defBody iTooMany__init__, defScope iTooMany__init__, [], []⟩
def dTooFar__init__ : He.DefD := ⟨("TooFar", some "__init__"), "__init__", "TooFar.__init__", defArgs iTooFar__init__, defBody iTooFar__init__, defScope iTooFar__init__, [], []⟩
def dNoLoop__init__ : He.DefD := ⟨("NoLoop", some "__init__"), "__init__", "NoLoop.__init__", defArgs iNoLoop__init__, defBody iNoLoop__init__, defScope iNoLoop__init__, [], []⟩
def dNoStatement__init__ : He.DefD := ⟨("NoStatement", some "__init__"), "__init__", "NoStatement.__init__", defArgs iNoStatement__init__, defBody iNoStatement__init__, defScope iNoStatement__init__, [], []⟩
def dNoWork__init__ : He.DefD := ⟨("NoWork", some "__init__"), "__init__", "NoWork.__init__", defArgs iNoWork__init__, defBody iNoWork__init__, defScope iNoWork__init__, [], []⟩
def dNoNumber__init__ : He.DefD := ⟨("NoNumber", some "__init__"), "__init__", "NoNumber.__init__", defArgs iNoNumber__init__, defBody iNoNumber__init__, defScope iNoNumber__init__, [], []⟩
def dStraight__init__ : He.DefD := ⟨("Straight", some "__init__"), "__init__", "Straight.__init__", defArgs iStraight__init__, defBody iStraight__init__, defScope iStraight__init__, [], []⟩
def dStraight__call__ : He.DefD := ⟨("Straight", some "__call__"), "__call__", "Straight.__call__", defArgs iStraight__call__, defBody iStraight__call__, defScope iStraight__call__, [], []⟩
def dPlace__init__ : He.DefD := ⟨("Place", some "__init__"), "__init__", "Place.__init__", defArgs iPlace__init__, defBody iPlace__init__, defScope iPlace__init__, [], []⟩
def dPlace__call__ : He.DefD := ⟨("Place", some "__call__"), "__call__", "Place.__call__", defArgs iPlace__call__, defBody iPlace__call__, defScope iPlace__call__, [], []⟩
def dAtLeast__init__ : He.DefD := ⟨("AtLeast", some "__init__"), "__init__", "AtLeast.__init__", defArgs iAtLeast__init__, defBody iAtLeast__init__, defScope iAtLeast__init__, [], []⟩
def dAtLeastholds : He.DefD := ⟨("AtLeast", some "holds"), "holds", "AtLeast.holds", defArgs iAtLeastholds, defBody iAtLeastholds, defScope iAtLeastholds, [], []⟩
def dRest__init__ : He.DefD := ⟨("Rest", some "__init__"), "__init__", "Rest.__init__", defArgs iRest__init__, defBody iRest__init__, defScope iRest__init__, [], []⟩
def dRestholds : He.DefD := ⟨("Rest", some "holds"), "holds", "Rest.holds", defArgs iRestholds, defBody iRestholds, defScope iRestholds, [], []⟩
def dRead__init__ : He.DefD := ⟨("Read", some "__init__"), "__init__", "Read.__init__", defArgs iRead__init__, defBody iRead__init__, defScope iRead__init__, [], [("factor", .int 1)]⟩
def dStatement__init__ : He.DefD := ⟨("Statement", some "__init__"), "__init__", "Statement.__init__", defArgs iStatement__init__, defBody iStatement__init__, defScope iStatement__init__, [], [("reads", .adr (kwAt "reads")), ("conditions", .adr (kwAt "conditions"))]⟩
def dStatementis_done : He.DefD := ⟨("Statement", some "is_done"), "is_done", "Statement.is_done", defArgs iStatementis_done, defBody iStatementis_done, defScope iStatementis_done, [], []⟩
def dLoop__init__ : He.DefD := ⟨("Loop", some "__init__"), "__init__", "Loop.__init__", defArgs iLoop__init__, defBody iLoop__init__, defScope iLoop__init__, [], [("step", .int 1), ("down", .bl false)]⟩
def dLoopmany_turns : He.DefD := ⟨("Loop", some "many_turns"), "many_turns", "Loop.many_turns", defArgs iLoopmany_turns, defBody iLoopmany_turns, defScope iLoopmany_turns, [], []⟩
def dLoopcounter_of : He.DefD := ⟨("Loop", some "counter_of"), "counter_of", "Loop.counter_of", defArgs iLoopcounter_of, defBody iLoopcounter_of, defScope iLoopcounter_of, [], []⟩
def dLoopturn_of : He.DefD := ⟨("Loop", some "turn_of"), "turn_of", "Loop.turn_of", defArgs iLoopturn_of, defBody iLoopturn_of, defScope iLoopturn_of, [], []⟩
def dLoopleast_counter : He.DefD := ⟨("Loop", some "least_counter"), "least_counter", "Loop.least_counter", defArgs iLoopleast_counter, defBody iLoopleast_counter, defScope iLoopleast_counter, [], []⟩
def dProgram__init__ : He.DefD := ⟨("Program", some "__init__"), "__init__", "Program.__init__", defArgs iProgram__init__, defBody iProgram__init__, defScope iProgram__init__, [], []⟩
def fn0 : List He.DefD := [d_wall, d_is_integer, d_is_integer_from, d_is_size, d_is_array_name, d_check_loop, d_check_statement, d_check_size]
def fn1 : List He.DefD := [d_is_straight, d_straight_like, d_place_like, d_value_of, d_added, d_done_turns, d_narrowed, d_is_done_in]
def fn2 : List He.DefD := [d_many_before, d_many_of, d_next_of_turns, d_last_of_turns, d_turns_of_loop, d_turns_of, d_works_before, d_works_in]
def fn3 : List He.DefD := [d_work_at, d_position_of, d_turn_with, d_number_at, d_next_work, d_last_work, d_turns_from, d_arrays_in]
def fn4 : List He.DefD := [d_check_many, d_check_name, d_check_number, d_check_sum, d_check_place, d_check_range_place, d_law_pen_of, d_law_draw]
def fn5 : List He.DefD := [d_law_signed, d_law_far, d_law_name, d_law_condition_row, d_law_statement_row, d_law_loop_row, d_law_straight, d_law_condition]
def fn6 : List He.DefD := [d_law_read, d_law_statement, d_law_bound, d_law_loop, d_law_program, d_law_least, d_law_turns, d_law_holds]
def fn7 : List He.DefD := [d_law_done, d_law_counters, d_law_works, d_law_span, d_law_below, d_law_many, d_law_of_statement, d_law_ahead]
def fn8 : List He.DefD := [d_law_turn_of, d_law_number, d_law_is_number, d_law_refused, d_law_own_before, d_law_own_before_number, d_law_is_own, d_law_small_right]
def fn9 : List He.DefD := [d_law_far_right, d_law, dBadName__init__, dBadNumber__init__, dBadSize__init__, dTooMany__init__, dTooFar__init__, dNoLoop__init__]
def fn10 : List He.DefD := [dNoStatement__init__, dNoWork__init__, dNoNumber__init__, dStraight__init__, dStraight__call__, dPlace__init__, dPlace__call__, dAtLeast__init__]
def fn11 : List He.DefD := [dAtLeastholds, dRest__init__, dRestholds, dRead__init__, dStatement__init__, dStatementis_done, dLoop__init__, dLoopmany_turns]
def fn12 : List He.DefD := [dLoopcounter_of, dLoopturn_of, dLoopleast_counter, dProgram__init__]
def fnP0 : List He.DefD := fn0 ++ fn1 ++ fn2 ++ fn3 ++ fn4
def fnP1 : List He.DefD := fn5 ++ fn6 ++ fn7 ++ fn8 ++ fn9
def fnP2 : List He.DefD := fn10 ++ fn11 ++ fn12
def fn : List He.DefD := fnP0 ++ fnP1 ++ fnP2
def glos0 : List Str := ["LoopError", "BadName", "BadNumber", "BadSize", "TooMany", "TooFar", "NoLoop", "NoStatement"]
def glos1 : List Str := ["NoWork", "NoNumber", "Straight", "Place", "AtLeast", "Rest", "Read", "Statement"]
def glos2 : List Str := ["Loop", "Program", "_wall", "is_integer", "is_integer_from", "is_size", "is_array_name", "check_loop"]
def glos3 : List Str := ["check_statement", "check_size", "is_straight", "straight_like", "place_like", "value_of", "added", "done_turns"]
def glos4 : List Str := ["narrowed", "is_done_in", "many_before", "many_of", "next_of_turns", "last_of_turns", "turns_of_loop", "turns_of"]
def glos5 : List Str := ["works_before", "works_in", "work_at", "position_of", "turn_with", "number_at", "next_work", "last_work"]
def glos6 : List Str := ["turns_from", "arrays_in", "check_many", "check_name", "check_number", "check_sum", "check_place", "check_range_place"]
def glos7 : List Str := ["_law_pen_of", "_law_draw", "_law_signed", "_law_far", "_law_name", "_law_condition_row", "_law_statement_row", "_law_loop_row"]
def glos8 : List Str := ["_law_straight", "_law_condition", "_law_read", "_law_statement", "_law_bound", "_law_loop", "_law_program", "_law_least"]
def glos9 : List Str := ["_law_turns", "_law_holds", "_law_done", "_law_counters", "_law_works", "_law_span", "_law_below", "_law_many"]
def glos10 : List Str := ["_law_of_statement", "_law_ahead", "_law_turn_of", "_law_number", "_law_is_number", "_law_refused", "_law_own_before", "_law_own_before_number"]
def glos11 : List Str := ["_law_is_own", "_law_small_right", "_law_far_right", "law"]
def glos : List Str := glos0 ++ glos1 ++ glos2 ++ glos3 ++ glos4 ++ glos5 ++ glos6 ++ glos7 ++ glos8 ++ glos9 ++ glos10 ++ glos11
def frees0 : List Str := ["int", "len", "list", "isinstance", "range", "str", "bool", "max"]
def frees1 : List Str := ["min", "tuple", "all", "set", "sorted", "enumerate", "sum", "abs"]
def frees2 : List Str := ["divmod"]
def frees : List Str := frees0 ++ frees1 ++ frees2
def owns0 : List Str := ["Straight", "Place", "AtLeast", "Rest", "Read", "Statement", "Loop", "Program"]
def owns : List Str := owns0
def atts0 : List (Str × Str) := [("Straight", "i"), ("Straight", "n"), ("Straight", "one"), ("Place", "straight"), ("Place", "divisor"), ("AtLeast", "straight"), ("Rest", "straight"), ("Rest", "modulus")]
def atts1 : List (Str × Str) := [("Rest", "rest"), ("Read", "array"), ("Read", "place"), ("Read", "factor"), ("Statement", "array"), ("Statement", "cell"), ("Statement", "constant"), ("Statement", "reads")]
def atts2 : List (Str × Str) := [("Statement", "conditions"), ("Loop", "low"), ("Loop", "high"), ("Loop", "statements"), ("Loop", "step"), ("Loop", "down"), ("Program", "loops"), ("Program", "arrays")]
def atts3 : List (Str × Str) := [("Program", "known")]
def atts : List (Str × Str) := atts0 ++ atts1 ++ atts2 ++ atts3
def mets0 : List (Str × Str) := [("Straight", "__init__"), ("Straight", "__call__"), ("Place", "__init__"), ("Place", "__call__"), ("AtLeast", "__init__"), ("AtLeast", "holds"), ("Rest", "__init__"), ("Rest", "holds")]
def mets1 : List (Str × Str) := [("Read", "__init__"), ("Statement", "__init__"), ("Statement", "is_done"), ("Loop", "__init__"), ("Loop", "many_turns"), ("Loop", "counter_of"), ("Loop", "turn_of"), ("Loop", "least_counter")]
def mets2 : List (Str × Str) := [("Program", "__init__")]
def mets : List (Str × Str) := mets0 ++ mets1 ++ mets2
def oprs0 : List (Str × String) := []
def oprs : List (Str × String) := oprs0
def excs0 : List (Str × List Str) := [("BadName", ["name"]), ("BadNumber", ["what", "number"]), ("BadSize", ["n"]), ("TooMany", ["what", "many", "limit"]), ("TooFar", ["what", "limit"]), ("NoLoop", ["loop"]), ("NoStatement", ["loop", "statement"]), ("NoWork", ["work"])]
def excs1 : List (Str × List Str) := [("NoNumber", ["number"])]
def excs : List (Str × List Str) := excs0 ++ excs1
def kits (K : PySem.W.Frag) : Bool := true && decide (PySem.W.kitOne K (.ref (He.ga K "Straight")) (.type "int") = some false) && decide (PySem.W.kitOne K (.ref (He.ga K "Straight")) (.ref (He.ga K "Straight")) = some true) && decide (PySem.W.kitOne K (.ref (He.ga K "Straight")) (.ref (He.ga K "Place")) = some false) && decide (PySem.W.kitOne K (.ref (He.ga K "Place")) (.ref (He.ga K "Place")) = some true) && decide (PySem.W.kitOne K (.ref (He.ga K "Place")) (.ref (He.ga K "Straight")) = some false) && decide (PySem.W.kitOne K (.type "int") (.ref (He.ga K "Place")) = some false) && decide (PySem.W.kitOne K (.type "int") (.ref (He.ga K "Straight")) = some false) && decide (PySem.W.kitOne K (.type "int") (.type "int") = some true) && decide (PySem.W.kitOne K (.type "int") (.type "bool") = some false) && decide (PySem.W.kitOne K (.ref (He.ga K "AtLeast")) (.ref (He.ga K "Rest")) = some false) && decide (PySem.W.kitOne K (.ref (He.ga K "Rest")) (.ref (He.ga K "Rest")) = some true)
def insB (K : PySem.W.Frag) (C : Addr) : Bool := He.eqO (PySem.W.findIn K (.ref C) "__class__") (some (some (.builtin "object.__class__"))) && (He.eqO (PySem.W.specialIn K (.builtin "object.__class__") "__get__") (some (some (.builtin "getset_descriptor.__get__"))) && (decide (PySem.W.takesIn K (.builtin "object.__class__") = some true) && decide (PySem.W.mroIn K C (.type "object") = some true)))
def faP0 : List FaK := [
  fun K => glos.all fun x => (He.Fa.glo x).ok K,
  fun K => frees.all fun x => (He.Fa.free x).ok K,
  fun K => owns.all fun x => (He.Fa.cls x).ok K && ((He.Fa.mkr x).ok K && insB K (He.ga K x))]
def faP1 : List FaK := [
  fun K => atts.all fun q => (He.Fa.noat q.1 q.2).ok K,
  fun K => mets.all fun q => (He.Fa.meth q.1 q.2).ok K]
def faP2 : List FaK := [
  fun K => oprs.all fun q => opiB K (He.ga K q.1) q.2,
  fun K => excs.all fun q => exkB K (He.ga K q.1) && (oexB K (He.ga K q.1) && (He.eqO (PySem.W.findIn K (.ref (He.ga K q.1)) "__init__") (some (some (.ref (He.ma K (He.ga K q.1) "__init__")))) && (decide (PySem.W.typeIn K (.ref (He.ma K (He.ga K q.1) "__init__")) = some (.type "function")) &&
    q.2.all fun f => He.eqO (PySem.W.findIn K (.ref (He.ga K q.1)) f) (some none)))),
  kits,
  fun K => He.eqO (PySem.W.nsIn K mainGlobals "gcd") (some (some (.builtin "math.gcd"))),
  fun K => ([("NoLoop", "NoLoop", true), ("NoStatement", "NoLoop", false), ("NoStatement", "NoStatement", true), ("BadSize", "NoLoop", false), ("BadSize", "NoStatement", false), ("BadSize", "BadSize", true), ("NoNumber", "NoLoop", false), ("NoNumber", "NoStatement", false), ("NoNumber", "BadSize", false), ("NoNumber", "NoNumber", true), ("NoWork", "NoLoop", false), ("NoWork", "NoStatement", false), ("NoWork", "BadSize", false), ("NoWork", "NoNumber", false), ("NoWork", "NoWork", true)] : List (Str × Str × Bool)).all fun q => decide (PySem.W.exmOne K (.ref (He.ga K q.1)) (.ref (He.ga K q.2.1)) = some q.2.2),
  fun K => ([("TOP_PART", 12), ("TOP_ONE", 999), ("TOP_RANGE_PART", 3), ("TOP_DIVISOR", 3), ("TOP_STEP", 16), ("MOST_LOOPS", 6), ("MOST_STATEMENTS", 16), ("MOST_READS", 3), ("MOST_CONDITIONS", 3), ("TOP_MODULUS", 4), ("CYCLE", 12), ("TOP_SIZE", 1000000000000000000000000000000)] : List (Str × Int)).all fun q => (match PySem.W.nsIn K mainGlobals q.1 with | some (some (.int i _)) => decide (i = q.2) | _ => false),
  fun K => (He.Fa.glo "KEPT_WORDS").ok K && He.tupB K "KEPT_WORDS" (kept.map He.Dv.str),
  fun K => (match PySem.W.nsIn K mainGlobals "LETTERS" with | some (some (.str x _)) => decide (x = lets) | _ => false),
  fun K => (["reads", "conditions"] : List Str).all fun x => (match K.lookup (kwAt x K) with | some ⟨.type c, _, .seq its _, _⟩ => decide (c = "tuple") && decide (its.size = 0) | _ => false),
  fun K => (match PySem.W.tabIn K "law" with | some (_, a) => (K.lookup a).isNone | _ => false)]
def fa : List FaK := faP0 ++ faP1 ++ faP2
abbrev R : PySem.W.OpenRow := PySem.W.OpenLaw.row PySem.Challenge.rw_loopsize_k35_next_and_last_works_of_a_st
abbrev hk : PySem.W.Hook := hookRT 1100 fa fn
def ob (s : PySem.W.SharedT) : He.AlD := obsRT 1100 fa fn (HandSHeadRun.getT s)
theorem ob_eq (s : PySem.W.SharedT) : ob s = hk.obs s.abs := obsRT_eq (HandSHeadRun.getT_eq s)
def names0 : List Str := ["_wall", "LoopError", "BadName", "BadNumber", "BadSize", "TooMany", "TooFar", "NoLoop"]
def names1 : List Str := ["NoStatement", "NoWork", "NoNumber", "is_integer", "is_integer_from", "is_size", "is_array_name", "check_loop"]
def names2 : List Str := ["check_statement", "check_size", "Straight", "Place", "is_straight", "straight_like", "place_like", "value_of"]
def names3 : List Str := ["added", "AtLeast", "Rest", "done_turns", "narrowed", "is_done_in", "many_before", "many_of"]
def names4 : List Str := ["next_of_turns", "last_of_turns", "turns_of_loop", "turns_of", "works_before", "works_in", "work_at", "position_of"]
def names5 : List Str := ["turn_with", "number_at", "next_work", "last_work", "Read", "Statement", "Loop", "Program"]
def names6 : List Str := ["turns_from", "arrays_in", "check_many", "check_name", "check_number", "check_sum", "check_place", "check_range_place"]
def names7 : List Str := ["_law_pen_of", "_law_draw", "_law_signed", "_law_far", "_law_name", "_law_condition_row", "_law_statement_row", "_law_loop_row"]
def names8 : List Str := ["_law_straight", "_law_condition", "_law_read", "_law_statement", "_law_bound", "_law_loop", "_law_program", "_law_least"]
def names9 : List Str := ["_law_turns", "_law_holds", "_law_done", "_law_counters", "_law_works", "_law_span", "_law_below", "_law_many"]
def names10 : List Str := ["_law_of_statement", "_law_ahead", "_law_turn_of", "_law_number", "_law_is_number", "_law_refused", "_law_own_before", "_law_own_before_number"]
def names11 : List Str := ["_law_is_own", "_law_small_right", "_law_far_right", "TOP_SIZE", "LETTERS", "KEPT_WORDS", "TOP_MODULUS", "CYCLE"]
def names12 : List Str := ["TOP_PART", "TOP_ONE", "TOP_DIVISOR", "TOP_RANGE_PART", "TOP_STEP", "MOST_LOOPS", "MOST_STATEMENTS", "MOST_READS"]
def names13 : List Str := ["MOST_CONDITIONS"]
def names : List Str := names0 ++ names1 ++ names2 ++ names3 ++ names4 ++ names5 ++ names6 ++ names7 ++ names8 ++ names9 ++ names10 ++ names11 ++ names12 ++ names13
end K35
set_option maxHeartbeats 0
namespace K35
open PySem PySem.Spec PyProof.Rows L2 Z
theorem run1 (w : World) : (HandSHeadRun.wholeF (fun p => HandSHeadRun.stepQ (HandSHeadRun.denQ HandSHeadRun.tabQ) p w) HandSHeadRun.fenceQ 60000 R.prog).map (fun x => HandSHeadRun.looksF R.prog x.1.heap x.2.abs) = some true := by
  kernel_rfl
theorem run2 (w : World) : (HandSHeadRun.wholeF (fun p => HandSHeadRun.stepQ (HandSHeadRun.denQ HandSHeadRun.tabQ) p w) HandSHeadRun.fenceQ 60000 R.prog).map (fun x => HandSHeadRun.seenQ (PySem.W.view R.prog [0, 115]) names (importedModules R.prog.main.body) (fun s => PySem.W.xlAt (PySem.W.view R.prog [0, 115]) [] s && PySem.W.recOk R.toRowW.records s) x.2.abs) = some (PySem.W.openGood (PySem.W.view R.prog [0, 115]) names) := by
  kernel_rfl
theorem run3_0 (w : World) : (HandSHeadRun.wholeF (fun p => HandSHeadRun.stepQ (HandSHeadRun.denQ HandSHeadRun.tabQ) p w) HandSHeadRun.fenceQ 60000 R.prog).map (fun x => obsRT 1100 faP0 fnP0 (HandSHeadRun.getT x.2)) = some (He.valD fnP0) := by
  kernel_rfl
theorem run3_1 (w : World) : (HandSHeadRun.wholeF (fun p => HandSHeadRun.stepQ (HandSHeadRun.denQ HandSHeadRun.tabQ) p w) HandSHeadRun.fenceQ 60000 R.prog).map (fun x => obsRT 1100 faP1 fnP1 (HandSHeadRun.getT x.2)) = some (He.valD fnP1) := by
  kernel_rfl
theorem run3_2 (w : World) : (HandSHeadRun.wholeF (fun p => HandSHeadRun.stepQ (HandSHeadRun.denQ HandSHeadRun.tabQ) p w) HandSHeadRun.fenceQ 60000 R.prog).map (fun x => obsRT 1100 faP2 fnP2 (HandSHeadRun.getT x.2)) = some (He.valD fnP2) := by
  kernel_rfl
theorem run3 (w : World) : (HandSHeadRun.wholeF (fun p => HandSHeadRun.stepQ (HandSHeadRun.denQ HandSHeadRun.tabQ) p w) HandSHeadRun.fenceQ 60000 R.prog).map (fun x => ob x.2) = some (hk.val w) := obs_catT (obs_catT (run3_0 w) (run3_1 w)) (run3_2 w)
theorem run (w : World) : HandSHeadRun.RunEqI R (PySem.W.view R.prog [0, 115]) hk ob 60000 names w := map3 (run1 w) (run2 w) (run3 w)
end K35
set_option maxHeartbeats 4000000
namespace K35
open PySem PySem.Spec PyProof.Rows L2 Z
abbrev FnP (K : PySem.W.Frag) (x : Str) (st : Stmt) (f : Addr) (fd : FuncData) : Prop := FunD K x x (defArgs st) (defBody st) (defScope st) [] [] f fd
/-- the built-in names that are still their own -/
structure Bt (mg : Str → Option Value) : Prop where
  int : mg "int" = none
  len : mg "len" = none
  list : mg "list" = none
  abs : mg "abs" = none
def penK (c : Addr) (a l : Int) : List (Key × V) := [(.inr "cells", .ref c), (.inr "next", .int a), (.inr "left", .int l)]
theorem ca_ : ¬ (("cells" : Str) = "next") := by decide +kernel
theorem cl_ : ¬ (("cells" : Str) = "left") := by decide +kernel
theorem al_ : ¬ (("next" : Str) = "left") := by decide +kernel
theorem penK_cells (c : Addr) (a l : Int) : valV (penK c a l) (Sum.inr "cells" : Key) = some (.ref c) := valV_pos rfl
theorem penK_at (c : Addr) (a l : Int) : valV (penK c a l) (Sum.inr "next" : Key) = some (.int a) := by
  unfold penK
  rw [valV_neg (key_ne ca_)]
  exact valV_pos rfl
theorem penK_left (c : Addr) (a l : Int) : valV (penK c a l) (Sum.inr "left" : Key) = some (.int l) := by
  unfold penK
  rw [valV_neg (key_ne cl_), valV_neg (key_ne al_)]
  exact valV_pos rfl
theorem penK_put_at (c : Addr) (a l b : Int) : putK (penK c a l) (Sum.inr "next" : Key) (.int b) = penK c b l := by
  unfold putK
  rw [valV_any, penK_at, if_pos (show (some (V.int a)).isSome = true from rfl)]
  unfold penK
  simp only [List.map_cons, List.map_nil, if_neg (key_ne ca_), if_neg (key_ne (fun q => al_ q.symm)), if_true]
theorem penK_put_left (c : Addr) (a l b : Int) : putK (penK c a l) (Sum.inr "left" : Key) (.int b) = penK c a b := by
  unfold putK
  rw [valV_any, penK_left, if_pos (show (some (V.int l)).isSome = true from rfl)]
  unfold penK
  simp only [List.map_cons, List.map_nil, if_neg (key_ne cl_), if_neg (key_ne al_), if_true]
/-- a pen stands at p; at most t numbers were drawn -/
def Pen (H : Hp) (p : Addr) (t : Nat) : Prop := ∃ (c : Addr) (ns : List Int) (a l : Int), H p = some (.dK (penK c a l)) ∧ H c = some (.lst (ns.map V.int)) ∧ ns.length ≤ 63 ∧ 0 ≤ a ∧ a ≤ (t : Int) ∧ 0 ≤ l
theorem Pen.mono {H : Hp} {p : Addr} {t t' : Nat} (h : Pen H p t) (e : t ≤ t') : Pen H p t' := by
  obtain ⟨c, ns, a, l, h1, h2, h3, h4, h5, h6⟩ := h
  exact ⟨c, ns, a, l, h1, h2, h3, h4, by omega, h6⟩
/-- a pen is not touched where all stands -/
theorem Pen.same {H H' : Hp} {p : Addr} {t : Nat} (h : Pen H p t) (s : Same H H') : Pen H' p t := by
  obtain ⟨c, ns, a, l, h1, h2, h3⟩ := h
  exact ⟨c, ns, a, l, s _ _ h1, s _ _ h2, h3⟩
/-- what is no dict is not the pen -/
theorem Pen.ne {H : Hp} {p a : Addr} {t : Nat} {o : HO} (h : Pen H p t) (e : H a = some o) (d : ∀ kvs, o ≠ .dK kvs) : a ≠ p := by
  obtain ⟨c, ns, x, l, h1, _⟩ := h
  exact ne_of e h1 (d _)
/-- .. its cells at pc -/
def PenC (H : Hp) (p c : Addr) (t : Nat) : Prop := ∃ (ns : List Int) (a l : Int), H p = some (.dK (penK c a l)) ∧ H c = some (.lst (ns.map V.int)) ∧ ns.length ≤ 63 ∧ 0 ≤ a ∧ a ≤ (t : Int) ∧ 0 ≤ l
theorem PenC.pen {H : Hp} {p c : Addr} {t : Nat} (h : PenC H p c t) : Pen H p t := ⟨c, h⟩
theorem PenC.mono {H : Hp} {p c : Addr} {t t' : Nat} (h : PenC H p c t) (e : t ≤ t') : PenC H p c t' := by
  obtain ⟨ns, a, l, h1, h2, h3, h4, h5, h6⟩ := h
  exact ⟨ns, a, l, h1, h2, h3, h4, by omega, h6⟩
theorem PenC.same {H H' : Hp} {p c : Addr} {t : Nat} (h : PenC H p c t) (s : Same H H') : PenC H' p c t := by
  obtain ⟨ns, a, l, h1, h2, h3⟩ := h
  exact ⟨ns, a, l, s _ _ h1, s _ _ h2, h3⟩
theorem PenC.ne {H : Hp} {p c a : Addr} {t : Nat} {o : HO} (h : PenC H p c t) (e : H a = some o) (d : ∀ kvs, o ≠ .dK kvs) : a ≠ p := h.pen.ne e d
theorem PenC.upd {H : Hp} {p pc D : Addr} {t t' : Nat} {o : HO} (h : PenC H p pc t) (n1 : D ≠ p) (n2 : D ≠ pc) (ht : t ≤ t') : PenC (upd H D o) p pc t' := by
  obtain ⟨ns, a, l, h1, h2, h3, h4, h5, h6⟩ := h
  exact ⟨ns, a, l, by rw [upd_ne n1.symm]; exact h1, by rw [upd_ne n2.symm]; exact h2, h3, h4, by omega, h6⟩
/-- what was free is not the pen's -/
theorem PenC.free {H : Hp} {p pc D : Addr} {t : Nat} (h : PenC H p pc t) (n : H D = none) : D ≠ p ∧ D ≠ pc := by
  obtain ⟨ns, a, l, h1, h2, _⟩ := h
  exact ⟨fun z => (by rw [z, h1] at n; cases n), fun z => (by rw [z, h2] at n; cases n)⟩
def spPen (K : PySem.W.Frag) : Sp := fun vs H Q _ => ∃ (a : Addr) (ns : List Int), vs = [.ref a] ∧ SqL K H a (ns.map V.int) ∧ ns.length ≤ 63 ∧ ∀ H' p pc, Same H H' → H p = none → PenC H' p pc 0 → Q (.ref p) H'
def spDraw : Sp := fun vs H Q _ => ∃ (p pc : Addr) (m : Int) (t : Nat), vs = [.ref p, .int m] ∧ 0 < m ∧ m < 1073741824 ∧ t < 1000000000 ∧ PenC H p pc t ∧ ∀ H' (d : Int), 0 ≤ d → d < m → PenC H' p pc (t + 1) → Keep p H H' → Q (.int d) H'
section
variable {H : Hp} {p c : Addr} {a l b : Int}
theorem pen_left (h : H p = some (.dK (penK c a l))) : DGet H p (.str "left") (some (.int l)) := by
  have z := DGet.k (k := (Sum.inr "left" : Key)) h
  rw [penK_left] at z
  exact z
theorem pen_at (h : H p = some (.dK (penK c a l))) : DGet H p (.str "next") (some (.int a)) := by
  have z := DGet.k (k := (Sum.inr "next" : Key)) h
  rw [penK_at] at z
  exact z
theorem pen_cells (h : H p = some (.dK (penK c a l))) : DGet H p (.str "cells") (some (.ref c)) := by
  have z := DGet.k (k := (Sum.inr "cells" : Key)) h
  rw [penK_cells] at z
  exact z
theorem pen_put_left (b : Int) (h : H p = some (.dK (penK c a l))) : DPut H p (.str "left") (.int b) (upd H p (.dK (penK c a b))) := by
  have z := DPut.k (k := (Sum.inr "left" : Key)) (v := .int b) h (show 3 < sizeLine by decide)
  rw [penK_put_left] at z
  exact z
theorem pen_put_at (b : Int) (h : H p = some (.dK (penK c a l))) : DPut H p (.str "next") (.int b) (upd H p (.dK (penK c b l))) := by
  have z := DPut.k (k := (Sum.inr "next" : Key)) (v := .int b) h (show 3 < sizeLine by decide)
  rw [penK_put_at] at z
  exact z
end
section
variable {P : Program} {w : World} {K : PySem.W.Frag} {mg : Str → Option Value} {base : Heap}
theorem sc_law_pen_of : FnScope ["_law_script"] ["_law_script"] (defScope s_law_pen_of) := ⟨rfl, rfl, rfl, by decide +kernel, rfl, by decide +kernel, by decide +kernel⟩
theorem ok_pen {f : Addr} {fd : FuncData} (F : FnP K "_law_pen_of" s_law_pen_of f fd) (T : Bt mg) : FnOk P w K mg base CX0 1 f fd ["_law_script"] (spPen K) := by
  refine F.ok sc_law_pen_of (fun vs H Q E h => ?_) (fun cdv A outer s H vs Q E hr h => ?_)
  · obtain ⟨a, ns, rfl, _⟩ := h
    rfl
  · obtain ⟨a, ns, rfl, hS, hl, k⟩ := h
    have hu := hu_of hr
    refine ⟨_, PSs.nox (pss_one (ps_ret (pe_disp (pps_cons pe_str (pe_callTy call_list_of (by rfl) T.list (by decide +kernel) (pa_cons (pe_slice sl_list (pv 0) po_none (po_some pe_int)) pa_nil)) (pps_cons pe_str pe_int (pps_cons pe_str pe_int pps_nil))) (by rfl) (by rfl) (fun z => by cases z) (by decide)))), ?_⟩
    intro p hp
    refine ⟨_, rfl, _, rfl, a, ns.map V.int, rfl, ?_, fun q hq => ⟨q, _, rfl, .inl (SqL.of upd_same), fun l hl2 => ?_⟩⟩
    · exact Same.seq (Same.new _ (Same.refl H) hp) hS
    have npq : p ≠ q := fun z => by
      rw [← z, upd_same] at hq
      cases hq
    have npl : p ≠ l := fun z => by
      rw [← z, upd_ne npq, upd_same] at hl2
      cases hl2
    refine ⟨(by rw [upd_ne npl, upd_ne npq, upd_same]), penK l 0 0, rfl, (by show 3 ≤ 15; decide), ?_⟩
    have em : mergeK [] (penK l 0 0) = penK l 0 0 := by
      show putK (putK (putK [] (Sum.inr "cells" : Key) (.ref l)) (Sum.inr "next" : Key) (.int 0)) (Sum.inr "left" : Key) (.int 0) = penK l 0 0
      have e1 : putK ([] : List (Key × V)) (Sum.inr "cells" : Key) (.ref l) = [((Sum.inr "cells" : Key), V.ref l)] := putK_new (kvs := []) _ rfl
      have e2 : putK [((Sum.inr "cells" : Key), V.ref l)] (Sum.inr "next" : Key) (.int 0) = [((Sum.inr "cells" : Key), V.ref l), (Sum.inr "next", V.int 0)] := putK_new _ (by
        rw [valV_neg (key_ne ca_)]
        rfl)
      have e3 : putK [((Sum.inr "cells" : Key), V.ref l), (Sum.inr "next", V.int 0)] (Sum.inr "left" : Key) (.int 0) = penK l 0 0 := putK_new _ (by
        rw [valV_neg (key_ne cl_), valV_neg (key_ne al_)]
        rfl)
      rw [e1, e2, e3]
    rw [em]
    have hc : (cutV (ns.map V.int) none (some 63)) = (ns.map V.int) := by
      unfold cutV
      have e1 : HT.sIx (ns.map V.int).length 0 none = 0 := HT.sIx_none _ _
      have e2 : HT.sIx (ns.map V.int).length (ns.map V.int).length (some 63) = min 63 (ns.map V.int).length := HT.sIx_nat _ _ 63
      rw [e1, e2, List.drop_zero, List.length_map, Nat.sub_zero, Nat.min_eq_right hl, ← List.length_map (f := V.int), List.take_length]
    rw [hc]
    refine k _ p l (fun b o e => ?_) hp ⟨ns, 0, 0, upd_same, by rw [upd_ne npl.symm, upd_same], hl, Int.le_refl 0, Int.le_refl 0, Int.le_refl 0⟩
    have nbp : b ≠ p := ne_of_none e hp
    have nbq : b ≠ q := fun z => by
      rw [← z, upd_ne nbp] at hq
      rw [hq] at e
      cases e
    have nbl : b ≠ l := fun z => by
      rw [← z, upd_ne nbq, upd_ne nbp] at hl2
      rw [hl2] at e
      cases e
    rw [upd_ne nbp, upd_ne nbl, upd_ne nbq, upd_ne nbp]
    exact e
theorem mulN {x m : Int} (h : 0 < m) (hm : m ≤ 8589934592) : -(2 ^ 64) < x.fmod m ∧ x.fmod m < 2 ^ 64 := by
  have := fmod_range (x := x) h
  omega
theorem mid {S1 S2 : TS} {D : Ends} {σ : L2.St} {H : Hp} (W2 : L2.St → Hp → Prop) (h1 : (∀ σ' H', W2 σ' H' → S2 D σ' H') → tSeq S1 S2 D σ H) (h2 : ∀ σ' H', W2 σ' H' → S2 D σ' H') : tSeq S1 S2 D σ H := h1 h2
theorem norm {N : L2.St → Hp → Prop} {σ σ' : L2.St} {H : Hp} (e : σ = σ') (h : N σ' H) : N σ H := e ▸ h
theorem normG {i : Nat} {v : V} {σ σ' : L2.St} {H : Hp} {N : L2.St → Hp → Prop} (e : σ.set i (some v) = σ') (h : N σ' H) : gName i v σ H N := by
  subst e
  exact h
theorem sc_law_draw : FnScope ["_law_pen", "_law_many_here", "_law_digit", "_law_index", "_law_size", "_law_cell", "_law_mixed"] ["_law_pen", "_law_many_here"] (defScope s_law_draw) := ⟨rfl, rfl, rfl, by decide +kernel, rfl, by decide +kernel, by decide +kernel⟩
theorem ok_draw {f : Addr} {fd : FuncData} (F : FnP K "_law_draw" s_law_draw f fd) (T : Bt mg) : FnOk P w K mg base CX0 1 f fd ["_law_pen", "_law_many_here"] spDraw := by
  refine F.ok sc_law_draw (fun vs H Q E h => ?_) (fun cdv A outer s H vs Q E hr h => ?_)
  · obtain ⟨p, c, m, t, rfl, _⟩ := h
    rfl
  · obtain ⟨p, c, m, t, rfl, hm, hm2, ht, hP, k⟩ := h
    obtain ⟨ns, a, l, h1, h2, h3, h4, h5, h6⟩ := id hP
    have hu := hu_of hr
    have m0 : m ≠ 0 := by omega
    have mb : m.natAbs < 1073741824 := by omega
    have ncp : c ≠ p := ne_of h2 h1 lst_ne_dK
    have z1 : (4294967197 : Int) ≠ 0 := by decide
    have z2 : (4294967189 : Int) ≠ 0 := by decide
    have z3 : (4294967161 : Int) ≠ 0 := by decide
    have z4 : (4294967143 : Int) ≠ 0 := by decide
    refine ⟨_, PSs.nox (pss_cons (ps_if (pt_cmpR op_gt (pe_dget hu (pv 0) pe_str (fun _ _ => rfl)) pe_int (nomark _)) (pss_cons (ps_set (i := 2) sc_law_draw.nd rfl (Or.inl rfl) (pe_op op_modN (pe_callTy call_int1 (by rfl) T.int (by decide +kernel) (pa_cons (pe_dget hu (pv 0) pe_str (fun _ _ => rfl)) pa_nil)) (pv 1)))
      (pss_cons (ps_dput hu (pv 0) pe_str (pe_op op_fdivN (pe_dget hu (pv 0) pe_str (fun _ _ => rfl)) (pv 1)) rfl)
      (pss_one (ps_ret (pv 2))))) pss_nil)
      (pss_cons (ps_par (i := 3) (j := 4) (by rfl) sc_law_draw.nd rfl rfl (by decide) rfl rfl (pa_cons (pe_dget hu (pv 0) pe_str (fun _ _ => rfl)) (pa_cons (pe_callB call_len_seq (by rfl) T.len PySem.boot_len (pa_cons (pe_dget hu (pv 0) pe_str (fun _ _ => rfl)) pa_nil)) pa_nil)) (by rfl))
      (pss_cons (ps_dput hu (pv 0) pe_str (pe_op op_add (pv 3) pe_int) rfl)
      (pss_cons (ps_if (pt_cmpR op_eq (pv 4) pe_int (nomark _)) (pss_one (ps_ret (pe_op op_modN (pe_callTy call_int1 (by rfl) T.int (by decide +kernel) (pa_cons (pe_op op_add (pe_op op_mul pe_int (pv 3)) pe_int) pa_nil)) (pv 1)))) pss_nil)
      (pss_cons (ps_set (i := 5) sc_law_draw.nd rfl (Or.inl rfl) (pe_ix ix_list (pe_dget hu (pv 0) pe_str (fun _ _ => rfl)) (pe_op op_modN (pe_callTy call_int1 (by rfl) T.int (by decide +kernel) (pa_cons (pv 3) pa_nil)) (pv 4)) (fun _ _ => rfl)))
      (pss_cons (ps_if (PW.pt (pw_and (pt_cmpR op_lt (pv 3) (pv 4) (nomark _)) (pw_and1 (pt_cmpR op_ge (pe_callB call_abs (by rfl) T.abs (by decide +kernel) (pa_cons (pv 5) pa_nil)) (pe_op op_pow pe_int pe_int) (nomark _))))) (pss_cons (ps_dput hu (pv 0) pe_str (pe_op op_fdivN (pe_op op_sub (pe_callB call_abs (by rfl) T.abs (by decide +kernel) (pa_cons (pv 5) pa_nil)) (pe_op op_pow pe_int pe_int)) (pv 1)) rfl)
      (pss_one (ps_ret (pe_op op_modN (pe_callTy call_int1 (by rfl) T.int (by decide +kernel) (pa_cons (pe_op op_sub (pe_callB call_abs (by rfl) T.abs (by decide +kernel) (pa_cons (pv 5) pa_nil)) (pe_op op_pow pe_int pe_int)) pa_nil)) (pv 1))))) pss_nil)
      (pss_cons (ps_set (i := 6) sc_law_draw.nd rfl (Or.inl rfl) (pe_op op_add (pe_op op_mul (pe_op op_modN (pe_callTy call_int1 (by rfl) T.int (by decide +kernel) (pa_cons (pv 5) pa_nil)) pe_int) pe_int) (pe_op op_mul (pe_op op_mul pe_int (pv 3)) (pv 3))))
      (pss_cons (ps_set (i := 6) sc_law_draw.nd rfl (Or.inl rfl) (pe_op op_modN (pe_callTy call_int1 (by rfl) T.int (by decide +kernel) (pa_cons (pe_op op_add (pe_op op_add (pv 6) (pe_op op_mul pe_int (pv 3))) pe_int) pa_nil)) pe_int))
      (pss_cons (ps_set (i := 6) sc_law_draw.nd rfl (Or.inl rfl) (pe_op op_modN (pe_callTy call_int1 (by rfl) T.int (by decide +kernel) (pa_cons (pe_op op_add (pe_op op_add (pe_op op_add (pe_op op_mul (pv 6) (pv 6)) (pe_op op_mul pe_int (pv 6))) (pe_op op_mul pe_int (pv 3))) pe_int) pa_nil)) pe_int))
      (pss_one (ps_ret (pe_op op_modN (pe_callTy call_int1 (by rfl) T.int (by decide +kernel) (pa_cons (pe_op op_fdivN (pe_op op_modN (pe_callTy call_int1 (by rfl) T.int (by decide +kernel) (pa_cons (pe_op op_mul (pv 6) (pe_op op_add (pv 6) pe_int)) pa_nil)) pe_int) pe_int) pa_nil)) (pv 1))))))))))))), ?_⟩
    refine ⟨_, rfl, p, _, rfl, pen_left h1, _, _, rfl, rfl, _, rfl, ?_⟩
    refine ite2 (fun hl0 => ?_) (fun _ => ?_)
    · refine ⟨_, rfl, p, _, rfl, pen_left h1, .inl ⟨_, rfl, _, rfl, _, _, rfl, rfl, m0, ?_⟩⟩
      refine ⟨_, rfl, p, _, rfl, pen_left h1, _, rfl, _, _, rfl, rfl, ⟨m0, mb⟩, _, rfl, p, _, rfl, pen_put_left _ h1, ?_⟩
      refine ⟨_, rfl, ?_⟩
      exact k _ _ (fmod_range hm).1 (fmod_range hm).2 ⟨ns, a, _, upd_same, by rw [upd_ne ncp]; exact h2, h3, h4, by omega, fdiv_nn h6 hm⟩ (Keep.upd _ (Keep.refl p H))
    · refine ⟨_, rfl, p, _, rfl, pen_at h1, _, rfl, p, _, rfl, pen_cells h1, c, _, rfl, .inl (SqL.of h2), _, _, rfl, ?_⟩
      refine norm (N := fun σ _ => _) (σ' := [some (.ref p), some (.int m), none, some (.int a), some (.int ((ns.map V.int).length : Int)), none, none]) rfl ?_
      dsimp only
      refine ⟨_, rfl, _, _, rfl, rfl, _, rfl, p, _, rfl, pen_put_at _ h1, ?_⟩
      have g1 : ∀ b, (upd H p (.dK (penK c (a + 1) b))) p = some (.dK (penK c (a + 1) b)) := fun b => upd_same
      have g2 : ∀ o, (upd H p o) c = some (.lst (ns.map V.int)) := fun o => by rw [upd_ne ncp]; exact h2
      have kE : ∀ o, Keep p H (upd H p o) := fun o => Keep.upd _ (Keep.refl p H)
      have pen' : PenC (upd H p (.dK (penK c (a + 1) l))) p c (t + 1) := ⟨ns, a + 1, l, g1 _, g2 _, h3, by omega, by omega, h6⟩
      refine ⟨_, rfl, rfl, _, rfl, ite2 (fun hc => ?_) (fun hc => ?_)⟩
      · refine ⟨_, rfl, _, _, rfl, rfl, .inl ⟨by decide, by decide⟩, _, _, rfl, rfl, .inl ⟨_, rfl, _, rfl, _, _, rfl, rfl, m0, ?_⟩⟩
        exact k _ _ (fmod_range hm).1 (fmod_range hm).2 pen' (kE _)
      · have hpos : 0 < ns.length := by
          cases ns with
          | nil => exact absurd rfl hc
          | cons n ns => exact Nat.succ_pos _
        have hposI : (0 : Int) < ((ns.map V.int).length : Int) := by
          rw [List.length_map]
          omega
        have fr := fmod_range (x := a) hposI
        obtain ⟨j, hj⟩ : ∃ j : Nat, a.fmod ((ns.map V.int).length : Int) = (j : Int) := ⟨(a.fmod ((ns.map V.int).length : Int)).toNat, by omega⟩
        have hjl : j < ns.length := by
          have z := fr.2
          rw [hj, List.length_map] at z
          omega
        refine ⟨_, rfl, p, _, rfl, pen_cells (g1 _), _, rfl, .inl ⟨_, rfl, _, rfl, _, _, rfl, rfl, by omega, ?_⟩⟩
        refine ⟨c, _, (j : Int), _, rfl, congrArg V.int hj, SqL.of (g2 _), atI_nat (get_ints hjl), ?_⟩
        generalize hz : ns[j]'hjl = z
        refine normG (σ' := [some (.ref p), some (.int m), none, some (.int a), some (.int ((ns.map V.int).length : Int)), some (.int z), none]) rfl ?_
        refine ⟨_, rfl, _, rfl, _, _, rfl, rfl, _, rfl, ?_⟩
        refine ite2 (fun _ => ?_) (fun _ => iteF ?_)
        · refine ⟨_, rfl, _, rfl, _, _, rfl, rfl, ⟨by decide, by decide, by decide⟩, _, _, rfl, rfl, _, rfl, ?_⟩
          refine ite2 (fun hz18 => ?_) (fun _ => ?_)
          · refine ⟨_, rfl, _, rfl, _, _, rfl, rfl, ⟨by decide, by decide, by decide⟩, _, _, rfl, rfl, _, rfl, _, _, rfl, rfl, ⟨m0, mb⟩, _, rfl, p, _, rfl, pen_put_left _ (g1 _), ?_⟩
            refine ⟨_, rfl, _, rfl, _, _, rfl, rfl, ⟨by decide, by decide, by decide⟩, _, _, rfl, rfl, .inl ⟨_, rfl, _, rfl, _, _, rfl, rfl, m0, ?_⟩⟩
            have hz0 := Int.sub_nonneg_of_le (of_decide_eq_true hz18)
            exact k _ _ (fmod_range hm).1 (fmod_range hm).2 ⟨ns, a + 1, _, upd_same, by rw [upd_ne ncp]; exact g2 _, h3, by omega, by omega, fdiv_nn hz0 hm⟩ (Keep.upd _ (kE _))
          · refine ⟨_, rfl, .inl ⟨_, rfl, _, _, rfl, rfl, z1, _, _, rfl, rfl, .inl (mulN (by decide) (by decide)), _, rfl, _, _, rfl, rfl, .inl ⟨by decide, by decide⟩, _, rfl, _, _, rfl, rfl, .inr ⟨by omega, by omega⟩, _, _, rfl, rfl, ?_⟩⟩
            refine ⟨_, rfl, _, rfl, _, _, rfl, rfl, .inl ⟨by decide, by decide⟩, _, _, rfl, rfl, _, _, rfl, rfl, .inl ⟨_, rfl, _, _, rfl, rfl, z2, ?_⟩⟩
            refine ⟨_, rfl, _, rfl, _, _, rfl, rfl, .inl (mulN (by decide) (by decide)), _, rfl, _, _, rfl, rfl, .inl ⟨by decide, by decide⟩, _, _, rfl, rfl, _, rfl, _, _, rfl, rfl, .inl ⟨by decide, by decide⟩, _, _, rfl, rfl, _, _, rfl, rfl, .inl ⟨_, rfl, _, _, rfl, rfl, z3, ?_⟩⟩
            refine ⟨_, rfl, _, rfl, _, _, rfl, rfl, _, _, rfl, rfl, .inl (mulN (by decide) (by decide)), .inl ⟨_, rfl, _, _, rfl, rfl, z4, ?_⟩⟩
            refine ⟨_, _, rfl, rfl, ⟨by decide, by decide⟩, .inl ⟨_, rfl, _, rfl, _, _, rfl, rfl, m0, ?_⟩⟩
            exact k _ _ (fmod_range hm).1 (fmod_range hm).2 pen' (kE _)
        · refine ⟨_, rfl, .inl ⟨_, rfl, _, _, rfl, rfl, z1, _, _, rfl, rfl, .inl (mulN (by decide) (by decide)), _, rfl, _, _, rfl, rfl, .inl ⟨by decide, by decide⟩, _, rfl, _, _, rfl, rfl, .inr ⟨by omega, by omega⟩, _, _, rfl, rfl, ?_⟩⟩
          refine ⟨_, rfl, _, rfl, _, _, rfl, rfl, .inl ⟨by decide, by decide⟩, _, _, rfl, rfl, _, _, rfl, rfl, .inl ⟨_, rfl, _, _, rfl, rfl, z2, ?_⟩⟩
          refine ⟨_, rfl, _, rfl, _, _, rfl, rfl, .inl (mulN (by decide) (by decide)), _, rfl, _, _, rfl, rfl, .inl ⟨by decide, by decide⟩, _, _, rfl, rfl, _, rfl, _, _, rfl, rfl, .inl ⟨by decide, by decide⟩, _, _, rfl, rfl, _, _, rfl, rfl, .inl ⟨_, rfl, _, _, rfl, rfl, z3, ?_⟩⟩
          refine ⟨_, rfl, _, rfl, _, _, rfl, rfl, _, _, rfl, rfl, .inl (mulN (by decide) (by decide)), .inl ⟨_, rfl, _, _, rfl, rfl, z4, ?_⟩⟩
          refine ⟨_, _, rfl, rfl, ⟨by decide, by decide⟩, .inl ⟨_, rfl, _, rfl, _, _, rfl, rfl, m0, ?_⟩⟩
          exact k _ _ (fmod_range hm).1 (fmod_range hm).2 pen' (kE _)
end
end K35
set_option maxHeartbeats 4000000
namespace K35
open PySem PySem.Spec PyProof.Rows L2 Z
abbrev FnM (K : PySem.W.Frag) (C m q : Str) (st : Stmt) (fd : FuncData) : Prop := FunD K m q (defArgs st) (defBody st) (defScope st) [] [] (He.ma K (He.ga K C) m) fd
section
variable {P : Program} {w : World} {K : PySem.W.Frag} {mg : Str → Option Value} {base : Heap}
/-- what may be called as Straight(a, b, c) -/
def MkS (P : Program) (w : World) (K : PySem.W.Frag) (mg : Str → Option Value) (base : Heap) : Prop := ∃ fd, FnOk P w K mg base CX0 1 (He.ma K (CS K) "__init__") fd ["self", "i", "n", "one"] (spSI K) ∧ Binds K fd ["self", "i", "n", "one"] []
theorem scStraight__init__ : FnScope ["self", "i", "n", "one"] ["self", "i", "n", "one"] (defScope iStraight__init__) := ⟨rfl, rfl, rfl, by decide +kernel, rfl, by decide +kernel, by decide +kernel⟩
theorem mk_S {fd : FuncData} (T : StTx K mg) (F : FnM K "Straight" "__init__" "Straight.__init__" iStraight__init__ fd) : MkS P w K mg base := by
  refine ⟨fd, ?_, F.bindsN fun _ _ _ _ _ _ us hl => match us, hl with | [_, _, _, _], _ => rfl⟩
  refine F.ok scStraight__init__ (fun vs H Q E h => ?_) (fun cdv A outer s H vs Q E hr h => ?_)
  · obtain ⟨p, dx, a, b, c, rfl, _⟩ := h
    rfl
  · obtain ⟨p, dx, a, b, c, rfl, hp, k⟩ := h
    refine ⟨_, PSs.nox (pss_cons (ps_fld (pv 0) (pv 1) rfl)
      (pss_cons (ps_fld (pv 0) (pv 2) rfl)
      (pss_one (ps_fld (pv 0) (pv 3) rfl)))), ?_⟩
    refine ⟨_, rfl, _, rfl, p, _, dx, [], rfl, hp, T.clS, T.nI, (by show 0 < 1000; decide), ?_⟩
    refine ⟨_, rfl, _, rfl, p, _, dx, _, rfl, upd_same, T.clS, T.nN, (by show 1 < 1000; decide), ?_⟩
    refine ⟨_, rfl, _, rfl, p, _, dx, _, rfl, upd_same, T.clS, T.nO, len2 _ _ _ _, ?_⟩
    exact k _ upd_same (fun b o nb e => by rw [upd_ne nb, upd_ne nb, upd_ne nb]; exact e)
theorem pe_S {X : Cx} {e : Expr} {es : List Expr} {t : TA} {p pos : Pos} {k : Nat} (T : StTx X.K X.mg) (M : MkS X.prog X.w X.K X.mg X.base) (hr : Room k X.A) (ha : PA X (e :: es) t) (hk : 2 ≤ k := by decide) (hg : Gl X "Straight" := by rfl)
    (he : starEach (e :: es) X.env = (false, eval e X.env) :: starEach es X.env := by rfl) (hpl : (backTo pos (starEach es X.env)).any (·.1) = false := by rfl) :
    PE X (.Call (.Name "Straight" p) (e :: es) [] pos) (fun σ H Q => t σ H fun vs H1 => ∃ a b c, vs = [.int a, .int b, .int c] ∧ NewS X.K H1 a b c Q) := by
  obtain ⟨fd, F, hb⟩ := M
  refine ⟨fun pins s σ H Q I h => ?_⟩
  refine wpAny_Call_Name_kw (ld_glob I hg T.gS ?_ (by decide))
  refine PySem.W.callWith_K (h₀ := X.base) I.ok.mod.kin T.mkS.kp (thn (ha.run pos pins s σ H _ I h) fun us s1 ⟨vs, H1, I1, r, a, b, c, ev, q⟩ => ⟨I1.kIn, ?_⟩) he hpl
  subst ev
  exact run_make T.mkS F (hr.mono hk) hb .nil pass0 I1 r fun x dx nx nd ne => ⟨x, dx, a, b, c, rfl, upd_same, fun H' hx kp => ⟨rfl, q x H' (Same.made (Same.refl H1) nx nd kp) nx ⟨dx, hx⟩⟩⟩
theorem sc_is_integer : FnScope ["value"] ["value"] (defScope s_is_integer) := ⟨rfl, rfl, rfl, by decide +kernel, rfl, by decide +kernel, by decide +kernel⟩
theorem ok_isInt {f : Addr} {fd : FuncData} (F : FnP K "is_integer" s_is_integer f fd) (T : StTx K mg) : FnOk P w K mg base CX0 1 f fd ["value"] (spIsInt K) := by
  refine F.ok sc_is_integer (fun vs H Q E h => ?_) (fun cdv A outer s H vs Q E hr h => ?_)
  · obtain ⟨v, rfl, _⟩ := h
    rfl
  · obtain ⟨v, rfl, h⟩ := h
    refine ⟨_, PSs.nox (pss_one (ps_ret (pe_and (pe_callB call_isi (by rfl) T.isi (by decide +kernel) (pa_cons (pv 0) (pa_cons (pe_bltn (v := .ty "int") (by rfl) T.int (by decide +kernel) rfl) pa_nil))) (pe_one (pe_not (pe_callB call_isi (by rfl) T.isi (by decide +kernel) (pa_cons (pv 0) (pa_cons (pe_bltn (v := .ty "bool") (by rfl) T.bool (by decide +kernel) rfl) pa_nil)))))))), ?_⟩
    rcases h with ⟨i, rfl, q⟩ | ⟨p, a, b, c, rfl, hp, q⟩
    · refine ⟨_, rfl, _, _, _, _, _, rfl, .ty _, .base (.int i), kii, _, rfl, iteT ?_⟩
      exact ⟨_, rfl, _, _, _, _, _, rfl, .ty _, .base (.int i), kib, _, rfl, q⟩
    · exact ⟨_, rfl, _, _, _, _, _, rfl, .ty _, .base (T.ty hp), T.kSi, _, rfl, iteF q⟩
theorem sc_straight_like : FnScope ["value"] ["value"] (defScope s_straight_like) := ⟨rfl, rfl, rfl, by decide +kernel, rfl, by decide +kernel, by decide +kernel⟩
theorem ok_like {f : Addr} {fd : FuncData} (F : FnP K "straight_like" s_straight_like f fd) (T : StTx K mg) (M : MkS P w K mg base) : FnOk P w K mg base CX0 3 f fd ["value"] (spLike K) := by
  refine F.ok sc_straight_like (fun vs H Q E h => ?_) (fun cdv A outer s H vs Q E hr h => ?_)
  · obtain ⟨v, _, _, _, rfl, _⟩ := h
    rfl
  · obtain ⟨v, a, b, c, rfl, h, q⟩ := h
    refine ⟨_, PSs.nox (pss_one (ps_ret (pe_ifExp (pt_val (pe_callB call_isi (by rfl) T.isi (by decide +kernel) (pa_cons (pv 0) (pa_cons (pe_glob (v := .ref (CS K)) rfl T.gS rfl) pa_nil)))) (pv 0) (pe_S T M hr (pa_cons pe_int (pa_cons pe_int (pa_cons (pv 0) pa_nil))))))), ?_⟩
    rcases h with ⟨p, rfl, hp⟩ | ⟨rfl, rfl, rfl⟩
    · refine ⟨_, rfl, _, _, _, _, _, rfl, .own _, .base (T.ty hp), T.kSS, _, rfl, iteT ?_⟩
      exact ⟨_, rfl, q p H (Same.refl H) hp⟩
    · refine ⟨_, rfl, _, _, _, _, _, rfl, .own _, .base (.int c), T.kiS, _, rfl, iteF ?_⟩
      exact ⟨_, rfl, 0, 0, c, rfl, fun p H' s _ hp => q p H' s hp⟩
theorem sc_value_of : FnScope ["straight", "i", "n"] ["straight", "i", "n"] (defScope s_value_of) := ⟨rfl, rfl, rfl, by decide +kernel, rfl, by decide +kernel, by decide +kernel⟩
theorem ok_val {f : Addr} {fd : FuncData} (F : FnP K "value_of" s_value_of f fd) (T : StTx K mg) : FnOk P w K mg base CX0 1 f fd ["straight", "i", "n"] (spVal K) := by
  refine F.ok sc_value_of (fun vs H Q E h => ?_) (fun cdv A outer s H vs Q E hr h => ?_)
  · obtain ⟨p, a, b, c, i, n, rfl, _⟩ := h
    rfl
  · obtain ⟨p, a, b, c, i, n, rfl, ⟨dx, hp⟩, sa, sb, q⟩ := h
    refine ⟨_, PSs.nox (pss_one (ps_ret (pe_op op_add (pe_op op_add (pe_op op_mul (pe_fld (pv 0) rfl) (pv 1)) (pe_op op_mul (pe_fld (pv 0) rfl) (pv 2))) (pe_fld (pv 0) rfl)))), ?_⟩
    refine ⟨_, rfl, p, _, dx, _, _, rfl, hp, T.clS, T.nI, sf_i _ _ _, _, rfl, _, _, rfl, rfl, .inl sa, ?_⟩
    refine ⟨_, rfl, p, _, dx, _, _, rfl, hp, T.clS, T.nN, sf_n _ _ _, _, rfl, _, _, rfl, rfl, .inl sb, _, _, rfl, rfl, ?_⟩
    exact ⟨_, rfl, p, _, dx, _, _, rfl, hp, T.clS, T.nO, sf_one _ _ _, _, _, rfl, rfl, q⟩
end
end K35
set_option maxHeartbeats 4000000
namespace K35
open PySem PySem.Spec PyProof.Rows L2 Z
section
variable {P : Program} {w : World} {K : PySem.W.Frag} {mg : Str → Option Value} {base : Heap}
theorem sc_is_integer_from : FnScope ["value", "low", "high"] ["value", "low", "high"] (defScope s_is_integer_from) := ⟨rfl, rfl, rfl, by decide +kernel, rfl, by decide +kernel, by decide +kernel⟩
theorem ok_intFrom {f : Addr} {fd : FuncData} (F : FnP K "is_integer_from" s_is_integer_from f fd) (dIsInt : Dn P w K mg base 1 "is_integer" ["value"] (spIsInt K)) : FnOk P w K mg base CX0 2 f fd ["value", "low", "high"] spIntFrom := by
  refine F.ok sc_is_integer_from (fun vs H Q E h => ?_) (fun cdv A outer s H vs Q E hr h => ?_)
  · obtain ⟨v, lo, hi, rfl, _⟩ := h
    rfl
  · obtain ⟨v, lo, hi, rfl, k⟩ := h
    refine ⟨_, PSs.nox (pss_one (ps_ret (pe_and (pe_dn dIsInt hr (pa_cons (pv 0) pa_nil)) (pe_one (pe_chain op_le op_le (pv 1) (pv 0) (pv 2)))))), ?_⟩
    refine ⟨_, rfl, _, rfl, .inl ⟨v, rfl, _, rfl, iteT ?_⟩⟩
    refine ⟨_, rfl, _, rfl, _, _, rfl, rfl, _, rfl, ite2 (fun h => ?_) (fun h => ?_)⟩
    · have h1 : lo ≤ v := of_decide_eq_true h
      refine ⟨_, rfl, _, _, rfl, rfl, ?_⟩
      rw [show decide (lo ≤ v ∧ v ≤ hi) = decide (v ≤ hi) from decide_eq_decide.mpr ⟨fun z => z.2, fun z => ⟨h1, z⟩⟩] at k
      exact k
    · have h1 : ¬ lo ≤ v := fun z => h (decide_eq_true z)
      rw [decide_eq_false (fun z => h1 z.1)] at k
      exact k
theorem scBadNumber__init__ : FnScope ["self", "what", "number"] ["self", "what", "number"] (defScope iBadNumber__init__) := ⟨rfl, rfl, rfl, by decide +kernel, rfl, by decide +kernel, by decide +kernel⟩
theorem mxBadNumber {fd : FuncData} (T : EC K mg "BadNumber" ["what", "number"]) (F : FnM K "BadNumber" "__init__" "BadNumber.__init__" iBadNumber__init__ fd) : Mx P w K mg base "BadNumber" ["self", "what", "number"] ["what", "number"] := by
  refine ⟨T, fd, ?_, F.bindsN fun _ _ _ _ _ _ us hl => match us, hl with | [_, _, _], _ => rfl⟩
  refine F.ok scBadNumber__init__ (fun vs H Q E h => ?_) (fun cdv A outer s H vs Q E hr h => ⟨_, PSs.nox (pss_cons (ps_ost (pv 0) (pv 1)) (pss_one (ps_ost (pv 0) (pv 2)))), rd_err2 T h⟩)
  obtain ⟨a, ws, rfl, e, _⟩ := h
  rw [List.length_cons, e]
  rfl
/-- what may be called as Place(v, d) -/
def MkP (P : Program) (w : World) (K : PySem.W.Frag) (mg : Str → Option Value) (base : Heap) : Prop := ∃ fd, FnOk P w K mg base (L2.CX P w) 4 (He.ma K (CP K) "__init__") fd ["self", "straight", "divisor"] (spPG K) ∧ Binds K fd ["self", "straight", "divisor"] []
theorem scPlace__init__ : FnScope ["self", "straight", "divisor", "told", "common"] ["self", "straight", "divisor"] (defScope iPlace__init__) := ⟨rfl, rfl, rfl, by decide +kernel, rfl, by decide +kernel, by decide +kernel⟩
theorem mk_P {fd : FuncData} (T : PlTx K mg) (M : MkS P w K mg base) (MB : Mx P w K mg base "BadNumber" ["self", "what", "number"] ["what", "number"]) (dLike : Dn P w K mg base 3 "straight_like" ["value"] (spLike K))
    (F : FnM K "Place" "__init__" "Place.__init__" iPlace__init__ fd) : MkP P w K mg base := by
  refine ⟨fd, ?_, F.bindsN fun _ _ _ _ _ _ us hl => match us, hl with | [_, _, _], _ => rfl⟩
  refine F.ok scPlace__init__ (fun vs H Q E h => ?_) (fun cdv A outer s H vs Q E hr h => ?_)
  · obtain ⟨p, dx, v, a, b, c, d, rfl, _⟩ := h
    rfl
  · obtain ⟨p, dx, v, a, b, c, d, rfl, hp, hv, hbad, hok⟩ := h
    refine ⟨_, (pss_cons (ps_if (pt_cmpR op_lt (pv 2) pe_int (nomark _)) (pss_one (ps_raise rfl (takes_of rfl rfl rfl rfl) (pmk_err MB hr (pa_cons pe_str (pa_cons (pv 2) pa_nil))))) pss_nil)
      (pss_cons (ps_set (i := 3) scPlace__init__.nd rfl (Or.inl rfl) (pe_dn dLike hr (pa_cons (pv 1) pa_nil)))
      (pss_cons (ps_set (i := 4) scPlace__init__.nd rfl (Or.inl rfl) (pe_callBfun cr_gcd (by rfl) T.gcd (pa_cons (pe_callBfun cr_gcd (by rfl) T.gcd (pa_cons (pe_fld (pv 3) rfl) (pa_cons (pe_fld (pv 3) rfl) pa_nil))) (pa_cons (pv 2) pa_nil))))
      (pss_cons (ps_fld (pv 0) (pe_S T.toStTx M hr (pa_cons (pe_op op_fdivN (pe_fld (pv 3) rfl) (pv 4)) (pa_cons (pe_op op_fdivN (pe_fld (pv 3) rfl) (pv 4)) (pa_cons (pe_op op_fdivN (pe_fld (pv 3) rfl) (pv 4)) pa_nil)))) rfl)
      (pss_one (ps_fld (pv 0) (pe_op op_fdivN (pv 2) (pv 4)) rfl)))))), ?_⟩
    refine ⟨_, rfl, _, _, rfl, rfl, _, rfl, ite2 (fun hd => ?_) (fun hd => ?_)⟩
    · exact ⟨_, rfl, err_go (K := K) (x := "BadNumber") (fs := ["what", "number"]) (by show 2 ≤ 1000; decide) rfl fun e H' s he => hbad (of_decide_eq_true hd) e H' s he⟩
    · have d1 : 1 ≤ d := by
        have z : ¬ d < 1 := fun z => hd (decide_eq_true z)
        omega
      obtain ⟨d2, k⟩ := hok d1
      have hg0 : 0 < gg a b d := Nat.gcd_pos_of_pos_right _ (by omega)
      have hgd : gg a b d ≤ d.natAbs := Nat.le_of_dvd (by omega) (Nat.gcd_dvd_right _ _)
      have hgc : CDivN a (gg a b d : Int) ∧ CDivN b (gg a b d : Int) ∧ CDivN c (gg a b d : Int) ∧ CDivN d (gg a b d : Int) := by
        unfold CDivN
        have e : ((gg a b d : Nat) : Int) ≠ 0 ∧ ((gg a b d : Nat) : Int).natAbs < 1073741824 := ⟨by omega, by omega⟩
        exact ⟨e, e, e, e⟩
      obtain ⟨ga_, gb_, gc_, gd_⟩ := hgc
      refine ⟨_, rfl, v, a, b, c, rfl, hv, fun q H1 s1 hq => ?_⟩
      obtain ⟨dq, hq⟩ := hq
      refine ⟨_, rfl, q, _, dq, _, _, rfl, hq, T.clS, T.nI, sf_i _ _ _, _, rfl, q, _, dq, _, _, rfl, hq, T.clS, T.nN, sf_n _ _ _, _, _, rfl, _, rfl, _, _, rfl, ?_⟩
      refine ⟨_, rfl, q, _, dq, _, _, rfl, hq, T.clS, T.nI, sf_i _ _ _, _, rfl, _, _, rfl, rfl, ga_, ?_⟩
      refine ⟨_, rfl, q, _, dq, _, _, rfl, hq, T.clS, T.nN, sf_n _ _ _, _, rfl, _, _, rfl, rfl, gb_, ?_⟩
      refine ⟨_, rfl, q, _, dq, _, _, rfl, hq, T.clS, T.nO, sf_one _ _ _, _, rfl, _, _, rfl, rfl, gc_, ?_⟩
      refine ⟨_, _, _, rfl, fun r H2 s2 hr1 hr2 => ?_⟩
      have hp2 : H2 p = some (.ins (CP K) dx []) := s2 _ _ (s1 _ _ hp)
      have npr : r ≠ p := fun z => by
        rw [z, s1 _ _ hp] at hr1
        cases hr1
      refine ⟨_, rfl, p, _, dx, _, rfl, hp2, T.clP, T.nS, (by show 0 < 1000; decide), ?_⟩
      refine ⟨_, rfl, _, rfl, _, _, rfl, rfl, gd_, _, rfl, p, _, dx, _, rfl, upd_same, T.clP, T.nD, len1 _ _, ?_⟩
      obtain ⟨dr, hr3⟩ := hr2
      refine k r _ upd_same ⟨dr, by rw [upd_ne npr, upd_ne npr]; exact hr3⟩ (fun b o nb e => ?_)
      rw [upd_ne nb, upd_ne nb]
      exact s2 _ _ (s1 _ _ e)
theorem pe_P {X : Cx} {e : Expr} {es : List Expr} {t : TA} {p pos : Pos} {k : Nat} {E : L2.St → XK} (T : PlTx X.K X.mg) (M : MkP X.prog X.w X.K X.mg X.base) (hr : Room k X.A) (hx : ∀ σ, PassesAt (L2.CX X.prog X.w) X σ (E σ)) (ha : PA X (e :: es) t) (hk : 5 ≤ k := by decide) (hg : Gl X "Place" := by rfl)
    (he : starEach (e :: es) X.env = (false, eval e X.env) :: starEach es X.env := by rfl) (hpl : (backTo pos (starEach es X.env)).any (·.1) = false := by rfl) :
    PE X (.Call (.Name "Place" p) (e :: es) [] pos) (fun σ H Q => t σ H fun vs H1 => ∃ v d, vs = [v, .int d] ∧ rPlG X.K v d H1 Q (E σ)) := by
  obtain ⟨fd, F, hb⟩ := M
  refine ⟨fun pins s σ H Q I h => ?_⟩
  refine wpAny_Call_Name_kw (ld_glob I hg T.gP ?_ (by decide))
  refine PySem.W.callWith_K (h₀ := X.base) I.ok.mod.kin T.mkP.kp (thn (ha.run pos pins s σ H _ I h) fun us s1 ⟨vs, H1, I1, r, v, d, ev, a, b, c, hv, hbad, hok⟩ => ⟨I1.kIn, ?_⟩) he hpl
  subst ev
  refine make_at T.mkP F (hr.mono hk) hb (hx σ) I1 r fun x dx nx nd ne => ?_
  have s0 : Same H1 (upd (upd H1 dx (.own x)) x (.ins (CP X.K) dx [])) := Same.new _ (Same.new _ (Same.refl H1) nd) (by rw [upd_ne (Ne.symm ne)]; exact nx)
  refine ⟨x, dx, v, a, b, c, d, rfl, upd_same, hv.same s0, fun hd e H' s he => hbad hd e H' (s0.trans s) he, fun h1 => ⟨(hok h1).1, fun q H' hp hq kp => ⟨rfl, (hok h1).2 x H' (Same.made (Same.refl H1) nx nd kp) ⟨dx, q, hp, hq⟩⟩⟩⟩
theorem scPlace__call__ : FnScope ["self", "i", "n"] ["self", "i", "n"] (defScope iPlace__call__) := ⟨rfl, rfl, rfl, by decide +kernel, rfl, by decide +kernel, by decide +kernel⟩
theorem ok_PCall {fd : FuncData} (F : FnM K "Place" "__call__" "Place.__call__" iPlace__call__ fd) (T : PlTx K mg) (dVal : Dn P w K mg base 1 "value_of" ["straight", "i", "n"] (spVal K)) : FnOk P w K mg base CX0 2 (He.ma K (CP K) "__call__") fd ["self", "i", "n"] (spPCall K) := by
  refine F.ok scPlace__call__ (fun vs H Q E h => ?_) (fun cdv A outer s H vs Q E hr h => ?_)
  · obtain ⟨p, a, b, c, d, i, n, rfl, _⟩ := h
    rfl
  · obtain ⟨p, a, b, c, d, i, n, rfl, ⟨dx, q, hp, hq⟩, sa, sb, d0, d1, k⟩ := h
    refine ⟨_, PSs.nox (pss_one (ps_ret (pe_op op_fdivN (pe_dn dVal hr (pa_cons (pe_fld (pv 0) rfl) (pa_cons (pv 1) (pa_cons (pv 2) pa_nil)))) (pe_fld (pv 0) rfl)))), ?_⟩
    refine ⟨_, rfl, p, _, dx, _, _, rfl, hp, T.clP, T.nS, pf_s _ _, _, rfl, _, rfl, q, a, b, c, i, n, rfl, hq, sa, sb, ?_⟩
    exact ⟨_, rfl, p, _, dx, _, _, rfl, hp, T.clP, T.nD, pf_d _ _, _, _, rfl, rfl, ⟨by omega, by omega⟩, k⟩
theorem pe_SK {X : Cx} {K : PySem.W.Frag} {e : Expr} {es : List Expr} {t : TA} {p pos : Pos} {k : Nat} (hK : X.K = K) (T : StTx K X.mg) (M : MkS X.prog X.w K X.mg X.base) (hr : Room k X.A) (ha : PA X (e :: es) t) (hk : 2 ≤ k := by decide) (hg : Gl X "Straight" := by rfl)
    (he : starEach (e :: es) X.env = (false, eval e X.env) :: starEach es X.env := by rfl) (hpl : (backTo pos (starEach es X.env)).any (·.1) = false := by rfl) :
    PE X (.Call (.Name "Straight" p) (e :: es) [] pos) (fun σ H Q => t σ H fun vs H1 => ∃ a b c, vs = [.int a, .int b, .int c] ∧ NewS K H1 a b c Q) := by
  subst hK
  exact pe_S T M hr ha hk hg he hpl
end
end K35
set_option maxHeartbeats 4000000
namespace K35
open PySem PySem.Spec PyProof.Rows L2 Z
structure AtTx (K : PySem.W.Frag) (mg : Str → Option Value) : Prop extends StTx K mg where
  gA : mg "AtLeast" = some (.ref (CA K))
  clA : Cls K (CA K)
  mkA : Mk K (CA K) (He.ma K (CA K) "__init__")
  nAS : NoAttr K (CA K) "straight"
  gcd : mg "gcd" = some (.builtin "math.gcd")
  gR : mg "Rest" = some (.ref (CR K))
  clQ : Cls K (CR K)
  mkR : Mk K (CR K) (He.ma K (CR K) "__init__")
  nRS : NoAttr K (CR K) "straight"
  nRM : NoAttr K (CR K) "modulus"
  nRR : NoAttr K (CR K) "rest"
  topM : ∃ t, mg "TOP_MODULUS" = some (.int 4 t)
section
variable {P : Program} {w : World} {K : PySem.W.Frag} {mg : Str → Option Value} {base : Heap}
/-- what may be called as AtLeast(v) -/
def MkA (P : Program) (w : World) (K : PySem.W.Frag) (mg : Str → Option Value) (base : Heap) : Prop := ∃ fd, FnOk P w K mg base CX0 4 (He.ma K (CA K) "__init__") fd ["self", "straight"] (spAI K) ∧ Binds K fd ["self", "straight"] []
theorem scAtLeast__init__ : FnScope ["self", "straight", "told", "common"] ["self", "straight"] (defScope iAtLeast__init__) := ⟨rfl, rfl, rfl, by decide +kernel, rfl, by decide +kernel, by decide +kernel⟩
theorem mk_A {fd : FuncData} (T : AtTx K mg) (M : MkS P w K mg base) (dLike : Dn P w K mg base 3 "straight_like" ["value"] (spLike K)) (F : FnM K "AtLeast" "__init__" "AtLeast.__init__" iAtLeast__init__ fd) : MkA P w K mg base := by
  refine ⟨fd, ?_, F.bindsN fun _ _ _ _ _ _ us hl => match us, hl with | [_, _], _ => rfl⟩
  refine F.ok scAtLeast__init__ (fun vs H Q E h => ?_) (fun cdv A outer s H vs Q E hr h => ?_)
  · obtain ⟨p, dx, v, a, b, c, rfl, _⟩ := h
    rfl
  · obtain ⟨p, dx, v, a, b, c, rfl, hp, hv, hg, k⟩ := h
    refine ⟨_, PSs.nox (pss_cons (ps_set (i := 2) scAtLeast__init__.nd rfl (Or.inl rfl) (pe_dn dLike hr (pa_cons (pv 1) pa_nil)))
      (pss_cons (ps_set (i := 3) scAtLeast__init__.nd rfl (Or.inl rfl) (pe_callBfun cr_gcd (by rfl) T.gcd (pa_cons (pe_fld (pv 2) rfl) (pa_cons (pe_fld (pv 2) rfl) pa_nil))))
      (pss_one (ps_if (pt_cmpR op_eq (pv 3) pe_int (nomark _)) (pss_one (ps_fld (pv 0) (pe_S T.toStTx M hr (pa_cons pe_int (pa_cons pe_int (pa_cons (pe_ifExp (pt_cmpR op_ge (pe_fld (pv 2) rfl) pe_int (nomark _)) pe_int (pe_un un_neg pe_int)) pa_nil)))) rfl)) (pss_one (ps_fld (pv 0) (pe_S T.toStTx M hr (pa_cons (pe_op op_fdivN (pe_fld (pv 2) rfl) (pv 3)) (pa_cons (pe_op op_fdivN (pe_fld (pv 2) rfl) (pv 3)) (pa_cons (pe_op op_fdivN (pe_fld (pv 2) rfl) (pv 3)) pa_nil)))) rfl)))))), ?_⟩
    refine ⟨_, rfl, v, a, b, c, rfl, hv, fun q H1 s1 hq => ?_⟩
    obtain ⟨dq, hq⟩ := hq
    refine ⟨_, rfl, q, _, dq, _, _, rfl, hq, T.clS, T.nI, sf_i _ _ _, _, rfl, q, _, dq, _, _, rfl, hq, T.clS, T.nN, sf_n _ _ _, _, _, rfl, ?_⟩
    have go : ∀ (x y z : Int), x = a.fdiv (g2 a b) → y = b.fdiv (g2 a b) → z = lf3 a b c → ∀ (r : Addr) (H2 : Hp), Same H1 H2 → H1 r = none → StrAt K H2 r x y z → Q .non (upd H2 p (.ins (CA K) dx (af r))) := by
      intro x y z ex ey ez r H2 s2 hr1 hr2
      subst ex ey ez
      have hp2 : H2 p = some (.ins (CA K) dx []) := s2 _ _ (s1 _ _ hp)
      have npr : r ≠ p := fun z => by
        rw [z, s1 _ _ hp] at hr1
        cases hr1
      obtain ⟨dr, hr3⟩ := hr2
      refine k r _ upd_same ⟨dr, by rw [upd_ne npr]; exact hr3⟩ (fun b o nb e => ?_)
      rw [upd_ne nb]
      exact s2 _ _ (s1 _ _ e)
    refine ⟨_, rfl, rfl, _, rfl, ite2 (fun h0 => ?_) (fun h0 => ?_)⟩
    · have z0 : g2 a b = 0 := by
        have z : ((g2 a b : Nat) : Int) = 0 := V.int.inj (of_decide_eq_true h0)
        omega
      obtain ⟨rfl, rfl⟩ := g2_zero z0
      refine ⟨_, rfl, q, _, dq, _, _, rfl, hq, T.clS, T.nO, sf_one _ _ _, _, _, rfl, rfl, ?_⟩
      refine ⟨_, rfl, ite2 (fun hc => ?_) (fun hc => ?_)⟩
      · have hc1 : 0 ≤ c := of_decide_eq_true hc
        refine ⟨0, 0, 0, rfl, fun r H2 s2 hr1 hr2 => ?_⟩
        refine ⟨_, rfl, p, _, dx, _, rfl, s2 _ _ (s1 _ _ hp), T.clA, T.nAS, (by show 0 < 1000; decide), ?_⟩
        exact go 0 0 0 (by rw [Int.zero_fdiv]) (by rw [Int.zero_fdiv]) (by unfold lf3; rw [if_pos z0, if_pos hc1]) r H2 s2 hr1 hr2
      · have hc1 : ¬ 0 ≤ c := fun z => hc (decide_eq_true z)
        refine ⟨_, rfl, 0, 0, -1, rfl, fun r H2 s2 hr1 hr2 => ?_⟩
        refine ⟨_, rfl, p, _, dx, _, rfl, s2 _ _ (s1 _ _ hp), T.clA, T.nAS, (by show 0 < 1000; decide), ?_⟩
        exact go 0 0 (-1) (by rw [Int.zero_fdiv]) (by rw [Int.zero_fdiv]) (by unfold lf3; rw [if_pos z0, if_neg hc1]) r H2 s2 hr1 hr2
    · have z0 : ¬ g2 a b = 0 := fun z => h0 (decide_eq_true (by
        show V.int ((g2 a b : Nat) : Int) = V.int 0
        rw [z]
        rfl))
      have hgc : ((g2 a b : Nat) : Int) ≠ 0 ∧ ((g2 a b : Nat) : Int).natAbs < 1073741824 := ⟨by omega, by omega⟩
      refine ⟨_, rfl, q, _, dq, _, _, rfl, hq, T.clS, T.nI, sf_i _ _ _, _, rfl, _, _, rfl, rfl, hgc, ?_⟩
      refine ⟨_, rfl, q, _, dq, _, _, rfl, hq, T.clS, T.nN, sf_n _ _ _, _, rfl, _, _, rfl, rfl, hgc, ?_⟩
      refine ⟨_, rfl, q, _, dq, _, _, rfl, hq, T.clS, T.nO, sf_one _ _ _, _, rfl, _, _, rfl, rfl, hgc, ?_⟩
      refine ⟨_, _, _, rfl, fun r H2 s2 hr1 hr2 => ?_⟩
      refine ⟨_, rfl, p, _, dx, _, rfl, s2 _ _ (s1 _ _ hp), T.clA, T.nAS, (by show 0 < 1000; decide), ?_⟩
      exact go _ _ _ rfl rfl (by unfold lf3; rw [if_neg z0]; rfl) r H2 s2 hr1 hr2
theorem pe_A {X : Cx} {e : Expr} {es : List Expr} {t : TA} {p pos : Pos} {k : Nat} (T : AtTx X.K X.mg) (M : MkA X.prog X.w X.K X.mg X.base) (hr : Room k X.A) (ha : PA X (e :: es) t) (hk : 5 ≤ k := by decide) (hg : Gl X "AtLeast" := by rfl)
    (he : starEach (e :: es) X.env = (false, eval e X.env) :: starEach es X.env := by rfl) (hpl : (backTo pos (starEach es X.env)).any (·.1) = false := by rfl) :
    PE X (.Call (.Name "AtLeast" p) (e :: es) [] pos) (fun σ H Q => t σ H fun vs H1 => ∃ v a b c, vs = [v] ∧ SumV X.K H1 v a b c ∧ g2 a b < 1073741824 ∧ NewA X.K H1 (a.fdiv (g2 a b)) (b.fdiv (g2 a b)) (lf3 a b c) Q) := by
  obtain ⟨fd, F, hb⟩ := M
  refine ⟨fun pins s σ H Q I h => ?_⟩
  refine wpAny_Call_Name_kw (ld_glob I hg T.gA ?_ (by decide))
  refine PySem.W.callWith_K (h₀ := X.base) I.ok.mod.kin T.mkA.kp (thn (ha.run pos pins s σ H _ I h) fun us s1 ⟨vs, H1, I1, r, v, a, b, c, ev, hv, hg2, q⟩ => ⟨I1.kIn, ?_⟩) he hpl
  subst ev
  refine run_make T.mkA F (hr.mono hk) hb .nil pass0 I1 r fun x dx nx nd ne => ?_
  have s0 : Same H1 (upd (upd H1 dx (.own x)) x (.ins (CA X.K) dx [])) := Same.new _ (Same.new _ (Same.refl H1) nd) (by rw [upd_ne (Ne.symm ne)]; exact nx)
  exact ⟨x, dx, v, a, b, c, rfl, upd_same, hv.same s0, hg2, fun q' H' hp hq kp => ⟨rfl, q x H' (Same.made (Same.refl H1) nx nd kp) ⟨dx, q', hp, hq⟩⟩⟩
theorem pe_AK {X : Cx} {K : PySem.W.Frag} {e : Expr} {es : List Expr} {t : TA} {p pos : Pos} {k : Nat} (hK : X.K = K) (T : AtTx K X.mg) (M : MkA X.prog X.w K X.mg X.base) (hr : Room k X.A) (ha : PA X (e :: es) t) (hk : 5 ≤ k := by decide) (hg : Gl X "AtLeast" := by rfl)
    (he : starEach (e :: es) X.env = (false, eval e X.env) :: starEach es X.env := by rfl) (hpl : (backTo pos (starEach es X.env)).any (·.1) = false := by rfl) :
    PE X (.Call (.Name "AtLeast" p) (e :: es) [] pos) (fun σ H Q => t σ H fun vs H1 => ∃ v a b c, vs = [v] ∧ SumV K H1 v a b c ∧ g2 a b < 1073741824 ∧ NewA K H1 (a.fdiv (g2 a b)) (b.fdiv (g2 a b)) (lf3 a b c) Q) := by
  subst hK
  exact pe_A T M hr ha hk hg he hpl
end
section
variable {P : Program} {w : World} {K : PySem.W.Frag} {mg : Str → Option Value} {base : Heap}
/-- what may be called as Rest(v, m, r) -/
def MkR (P : Program) (w : World) (K : PySem.W.Frag) (mg : Str → Option Value) (base : Heap) : Prop := ∃ fd, FnOk P w K mg base (L2.CX P w) 4 (He.ma K (CR K) "__init__") fd ["self", "straight", "modulus", "rest"] (spRI K) ∧ Binds K fd ["self", "straight", "modulus", "rest"] []
theorem scRest__init__ : FnScope ["self", "straight", "modulus", "rest", "told"] ["self", "straight", "modulus", "rest"] (defScope iRest__init__) := ⟨rfl, rfl, rfl, by decide +kernel, rfl, by decide +kernel, by decide +kernel⟩
theorem mk_R {fd : FuncData} (T : AtTx K mg) (M : MkS P w K mg base) (MB : Mx P w K mg base "BadNumber" ["self", "what", "number"] ["what", "number"]) (dLike : Dn P w K mg base 3 "straight_like" ["value"] (spLike K)) (dIsIntFrom : Dn P w K mg base 2 "is_integer_from" ["value", "low", "high"] spIntFrom)
    (F : FnM K "Rest" "__init__" "Rest.__init__" iRest__init__ fd) : MkR P w K mg base := by
  refine ⟨fd, ?_, F.bindsN fun _ _ _ _ _ _ us hl => match us, hl with | [_, _, _, _], _ => rfl⟩
  refine F.ok scRest__init__ (fun vs H Q E h => ?_) (fun cdv A outer s H vs Q E hr h => ?_)
  · obtain ⟨p, dx, v, m, r, rfl, _⟩ := h
    rfl
  · obtain ⟨p, dx, v, m, r, rfl, hp, a, b, c, hv, b1, b2, k⟩ := h
    obtain ⟨tTOP_MODULUS, hTOP_MODULUS⟩ := T.topM
    refine ⟨_, (pss_cons (ps_if (pt_not (pt_val (pe_dn dIsIntFrom hr (pa_cons (pv 2) (pa_cons pe_int (pa_cons (pe_glob (v := .int 4) rfl hTOP_MODULUS ⟨tTOP_MODULUS, rfl⟩) pa_nil)))))) (pss_one (ps_raise rfl (takes_of rfl rfl rfl rfl) (pmk_err MB hr (pa_cons pe_str (pa_cons (pv 2) pa_nil))))) pss_nil)
      (pss_cons (ps_if (pt_not (pt_val (pe_dn dIsIntFrom hr (pa_cons (pv 3) (pa_cons pe_int (pa_cons (pe_op op_sub (pv 2) pe_int) pa_nil)))))) (pss_one (ps_raise rfl (takes_of rfl rfl rfl rfl) (pmk_err MB hr (pa_cons pe_str (pa_cons (pv 3) pa_nil))))) pss_nil)
      (pss_cons (ps_set (i := 4) scRest__init__.nd rfl (Or.inl rfl) (pe_dn dLike hr (pa_cons (pv 1) pa_nil)))
      (pss_cons (ps_fld (pv 0) (pe_S T.toStTx M hr (pa_cons (pe_op op_modN (pe_fld (pv 4) rfl) (pv 2)) (pa_cons (pe_op op_modN (pe_fld (pv 4) rfl) (pv 2)) (pa_cons pe_int pa_nil)))) rfl)
      (pss_cons (ps_fld (pv 0) (pv 2) rfl)
      (pss_one (ps_fld (pv 0) (pe_op op_modN (pe_op op_sub (pv 3) (pe_fld (pv 4) rfl)) (pv 2)) rfl))))))), ?_⟩
    refine ⟨_, rfl, m, 2, 4, rfl, ?_⟩
    by_cases hm : 2 ≤ m ∧ m ≤ 4
    · rw [decide_eq_true hm]
      refine ⟨_, rfl, iteF ?_⟩
      refine ⟨_, rfl, _, rfl, _, _, rfl, rfl, r, 0, m - 1, rfl, ?_⟩
      by_cases hq : 0 ≤ r ∧ r ≤ m - 1
      · rw [decide_eq_true hq]
        refine ⟨_, rfl, iteF ?_⟩
        have k := k hm.1 hm.2 hq.1 hq.2
        have m0 : m ≠ 0 := by omega
        refine ⟨_, rfl, v, a, b, c, rfl, hv, fun q H1 s1 hq => ?_⟩
        obtain ⟨dq, hq⟩ := hq
        refine ⟨_, rfl, q, _, dq, _, _, rfl, hq, T.clS, T.nI, sf_i _ _ _, _, rfl, _, _, rfl, rfl, m0, ?_⟩
        refine ⟨_, rfl, q, _, dq, _, _, rfl, hq, T.clS, T.nN, sf_n _ _ _, _, rfl, _, _, rfl, rfl, m0, ?_⟩
        refine ⟨_, _, _, rfl, fun u H2 s2 hu1 hu2 => ?_⟩
        have hp2 : H2 p = some (.ins (CR K) dx []) := s2 _ _ (s1 _ _ hp)
        have nqp : q ≠ p := fun z => by
          rw [z, s1 _ _ hp] at hq
          have e : ([] : List (Str × V)) = sf a b c := congrArg (fun o : Option HO => match o with | some (.ins _ _ fs) => fs | _ => []) hq
          have l := sf_i a b c
          rw [← e] at l
          cases l
        have nup : u ≠ p := fun z => by
          rw [z, s1 _ _ hp] at hu1
          cases hu1
        refine ⟨_, rfl, p, _, dx, _, rfl, hp2, T.clQ, T.nRS, (by show 0 < 1000; decide), ?_⟩
        refine ⟨_, rfl, _, rfl, p, _, dx, _, rfl, upd_same, T.clQ, T.nRM, len1 _ _, ?_⟩
        refine ⟨_, rfl, _, rfl, q, _, dq, _, _, rfl, by rw [upd_ne nqp, upd_ne nqp]; exact s2 _ _ hq, T.clS, T.nO, sf_one _ _ _, _, _, rfl, rfl, _, rfl, _, _, rfl, rfl, m0, ?_⟩
        refine ⟨_, rfl, p, _, dx, _, rfl, upd_same, T.clQ, T.nRR, len2 _ _ _ _, ?_⟩
        obtain ⟨du, hu3⟩ := hu2
        refine k u _ upd_same ⟨du, by rw [upd_ne nup, upd_ne nup, upd_ne nup]; exact hu3⟩ (fun b o nb e => ?_)
        rw [upd_ne nb, upd_ne nb, upd_ne nb]
        exact s2 _ _ (s1 _ _ e)
      · rw [decide_eq_false hq]
        refine ⟨_, rfl, iteT ?_⟩
        exact ⟨_, rfl, err_go (K := K) (x := "BadNumber") (fs := ["what", "number"]) (by show 2 ≤ 1000; decide) rfl fun e H' s he => b2 hm.1 hm.2 hq e H' s he⟩
    · rw [decide_eq_false hm]
      refine ⟨_, rfl, iteT ?_⟩
      exact ⟨_, rfl, err_go (K := K) (x := "BadNumber") (fs := ["what", "number"]) (by show 2 ≤ 1000; decide) rfl fun e H' s he => b1 hm e H' s he⟩
theorem pe_R {X : Cx} {e : Expr} {es : List Expr} {t : TA} {p pos : Pos} {k : Nat} {E : L2.St → XK} (T : AtTx X.K X.mg) (M : MkR X.prog X.w X.K X.mg X.base) (hr : Room k X.A) (hx : ∀ σ, PassesAt (L2.CX X.prog X.w) X σ (E σ)) (ha : PA X (e :: es) t) (hk : 5 ≤ k := by decide) (hg : Gl X "Rest" := by rfl)
    (he : starEach (e :: es) X.env = (false, eval e X.env) :: starEach es X.env := by rfl) (hpl : (backTo pos (starEach es X.env)).any (·.1) = false := by rfl) :
    PE X (.Call (.Name "Rest" p) (e :: es) [] pos) (fun σ H Q => t σ H fun vs H1 => ∃ v m r, vs = [v, .int m, .int r] ∧ rRst X.K v m r H1 (fun a b c => NewR X.K H1 (a.fmod m) (b.fmod m) m ((r - c).fmod m) Q) (E σ)) := by
  obtain ⟨fd, F, hb⟩ := M
  refine ⟨fun pins s σ H Q I h => ?_⟩
  refine wpAny_Call_Name_kw (ld_glob I hg T.gR ?_ (by decide))
  refine PySem.W.callWith_K (h₀ := X.base) I.ok.mod.kin T.mkR.kp (thn (ha.run pos pins s σ H _ I h) fun us s1 ⟨vs, H1, I1, rr, v, m, r, ev, a, b, c, hv, b1, b2, q⟩ => ⟨I1.kIn, ?_⟩) he hpl
  subst ev
  refine make_at T.mkR F (hr.mono hk) hb (hx σ) I1 rr fun x dx nx nd ne => ?_
  have s0 : Same H1 (upd (upd H1 dx (.own x)) x (.ins (CR X.K) dx [])) := Same.new _ (Same.new _ (Same.refl H1) nd) (by rw [upd_ne (Ne.symm ne)]; exact nx)
  exact ⟨x, dx, v, m, r, rfl, upd_same, a, b, c, hv.same s0, fun z e H' s he => b1 z e H' (s0.trans s) he, fun z1 z2 z e H' s he => b2 z1 z2 z e H' (s0.trans s) he, fun z1 z2 z3 z4 q' H' hp hq kp => ⟨rfl, q z1 z2 z3 z4 x H' (Same.made (Same.refl H1) nx nd kp) ⟨dx, q', hp, hq⟩⟩⟩
end
end K35
set_option maxHeartbeats 4000000
namespace K35
open PySem PySem.Spec PyProof.Rows L2 Z
abbrev CRd (K : PySem.W.Frag) : Addr := He.ga K "Read"
abbrev CSt (K : PySem.W.Frag) : Addr := He.ga K "Statement"
abbrev CL (K : PySem.W.Frag) : Addr := He.ga K "Loop"
abbrev CPr (K : PySem.W.Frag) : Addr := He.ga K "Program"
structure PrTx (K : PySem.W.Frag) (mg : Str → Option Value) : Prop extends AtTx K mg where
  plc : PlTx K mg
  clR : Cls K (CRd K)
  nRA : NoAttr K (CRd K) "array"
  nRP : NoAttr K (CRd K) "place"
  nRF : NoAttr K (CRd K) "factor"
  clM : Cls K (CSt K)
  nMA : NoAttr K (CSt K) "array"
  nMC : NoAttr K (CSt K) "cell"
  nMK : NoAttr K (CSt K) "constant"
  nMR : NoAttr K (CSt K) "reads"
  nMG : NoAttr K (CSt K) "conditions"
  clL : Cls K (CL K)
  nLo : NoAttr K (CL K) "low"
  nHi : NoAttr K (CL K) "high"
  nSt : NoAttr K (CL K) "statements"
  nSp : NoAttr K (CL K) "step"
  nDn : NoAttr K (CL K) "down"
  clP : Cls K (CPr K)
  nPL : NoAttr K (CPr K) "loops"
  nPA : NoAttr K (CPr K) "arrays"
  nPK : NoAttr K (CPr K) "known"
  con : ∀ q ∈ ([("TOP_PART", 12), ("TOP_ONE", 999), ("TOP_RANGE_PART", 3), ("TOP_DIVISOR", 3), ("TOP_STEP", 16), ("MOST_LOOPS", 6), ("MOST_STATEMENTS", 16), ("MOST_READS", 3), ("MOST_CONDITIONS", 3)] : List (Str × Int)), ∃ t, mg q.1 = some (.int q.2 t)
  gKW : mg "KEPT_WORDS" = some (.ref (He.ga K "KEPT_WORDS"))
  tKW : ∀ H : Hp, SqT K H (He.ga K "KEPT_WORDS") (kept.map V.str)
  gLe : ∃ t, mg "LETTERS" = some (.str lets t)
  len : mg "len" = none
  tuple : mg "tuple" = none
  all : mg "all" = none
  str : mg "str" = none
  set : mg "set" = none
  sorted : mg "sorted" = none
def spCkN (K : PySem.W.Frag) : Sp := fun vs H Q E => ∃ (w : Str) (v lo hi : Int), vs = [.str w, .int v, .int lo, .int hi] ∧ Out (ckN w v lo hi) (Rz K H E) (Q .non H)
def spCkM (K : PySem.W.Frag) : Sp := fun vs H Q E => ∃ (w : Str) (l : Addr) (m : Int) (xs : List V), vs = [.str w, .ref l, .int m] ∧ SqA K H l xs ∧ Out (ckM w xs.length m) (Rz K H E) (Q .non H)
def spIsName : Sp := fun vs H Q _ => ∃ x : Str, vs = [.str x] ∧ x.length ≤ 1000 ∧ ∀ H', Same H H' → Q (.bl (isName x)) H'
def spCkA (K : PySem.W.Frag) : Sp := fun vs H Q E => ∃ x : Str, vs = [.str x] ∧ x.length ≤ 1000 ∧ Out (ckA x) (Rz K H E) (∀ H', Same H H' → Q .non H')
def spCkS (K : PySem.W.Frag) : Sp := fun vs H Q E => ∃ (q : Addr) (a b c : Int), vs = [.ref q] ∧ StrAt K H q a b c ∧ Out (ckS a b c) (Rz K H E) (Q .non H)
def spCkP (K : PySem.W.Frag) : Sp := fun vs H Q E => ∃ (q : Addr) (a b c d : Int), vs = [.ref q] ∧ PlcAt K H q a b c d ∧ Out (ckP a b c d) (Rz K H E) (Q .non H)
def spCkR (K : PySem.W.Frag) : Sp := fun vs H Q E => ∃ (q : Addr) (a b c d : Int), vs = [.ref q] ∧ PlcAt K H q a b c d ∧ Out (ckR a b c d) (Rz K H E) (Q .non H)
/-- a place, or a sum or an int in its place -/
def PlV (K : PySem.W.Frag) (H : Hp) (v : V) (a b c d : Int) : Prop := (∃ q, v = .ref q ∧ PlcAt K H q a b c d) ∨ (SumV K H v a b c ∧ d = 1)
theorem PlV.same {K : PySem.W.Frag} {H H' : Hp} {v : V} {a b c d : Int} (h : PlV K H v a b c d) (s : Same H H') : PlV K H' v a b c d := by
  rcases h with ⟨q, e, h⟩ | ⟨h, e⟩
  · exact .inl ⟨q, e, h.same s⟩
  · exact .inr ⟨h.same s, e⟩
def spPLike (K : PySem.W.Frag) : Sp := fun vs H Q _ => ∃ (v : V) (a b c d : Int), vs = [v] ∧ PlV K H v a b c d ∧ ∀ q H', Same H H' → PlcAt K H' q a b c d → Q (.ref q) H'
section
variable {P : Program} {w : World} {K : PySem.W.Frag} {mg : Str → Option Value} {base : Heap}
theorem sc_check_number : FnScope ["what", "number", "low", "high"] ["what", "number", "low", "high"] (defScope s_check_number) := ⟨rfl, rfl, rfl, by decide +kernel, rfl, by decide +kernel, by decide +kernel⟩
theorem ok_ckN {f : Addr} {fd : FuncData} (F : FnP K "check_number" s_check_number f fd) (MB : Mx P w K mg base "BadNumber" ["self", "what", "number"] ["what", "number"]) : FnOk P w K mg base (L2.CX P w) 3 f fd ["what", "number", "low", "high"] (spCkN K) := by
  refine F.ok sc_check_number (fun vs H Q E h => ?_) (fun cdv A outer s H vs Q E hr h => ?_)
  · obtain ⟨w, v, lo, hi, rfl, _⟩ := h
    rfl
  · obtain ⟨w, v, lo, hi, rfl, k⟩ := h
    refine ⟨_, (pss_one (ps_if (pt_not (pt_chain op_le op_le (pv 2) (pv 1) (pv 3))) (pss_one (ps_raise rfl (takes_of rfl rfl rfl rfl) (pmk_err MB hr (pa_cons (pv 0) (pa_cons (pv 1) pa_nil))))) pss_nil)), ?_⟩
    have bad : ¬ (lo ≤ v ∧ v ≤ hi) → Rz K H E (.num w v) := fun z => k.1 _ (if_neg z)
    have rs : ∀ z : ¬ (lo ≤ v ∧ v ≤ hi), _ := fun z => err_go (K := K) (x := "BadNumber") (fs := ["what", "number"]) (vs := [.str w, .int v]) (H1 := H) (Q := E) (by show 2 ≤ 1000; decide) rfl fun d H' s hd => bad z d H' s hd
    refine ⟨_, rfl, _, rfl, _, _, rfl, rfl, _, rfl, ?_⟩
    by_cases h1 : lo ≤ v
    · rw [decide_eq_true h1]
      refine iteT ⟨_, rfl, _, _, rfl, rfl, _, rfl, ?_⟩
      by_cases h2 : v ≤ hi
      · rw [decide_eq_true h2]
        exact iteF (k.2 (if_pos ⟨h1, h2⟩))
      · rw [decide_eq_false h2]
        exact iteT ⟨_, rfl, _, rfl, rs fun z => h2 z.2⟩
    · rw [decide_eq_false h1]
      exact iteF ⟨_, rfl, iteT ⟨_, rfl, _, rfl, rs fun z => h1 z.1⟩⟩
end
end K35
set_option maxHeartbeats 4000000
namespace K35
open PySem PySem.Spec PyProof.Rows L2 Z
theorem if_no {b : Bool} {A B : Prop} (h : b = false) (k : B) : if b = true then A else B := by
  rw [h]
  exact k
theorem if_yes {b : Bool} {A B : Prop} (h : b = true) (k : A) : if b = true then A else B := by
  rw [h]
  exact k
theorem inv_strs (x : Str) (ys : List Str) : inV (.str x) (ys.map V.str) = decide (x ∈ ys) := by
  unfold inV
  induction ys with
  | nil => simp
  | cons y ys ih =>
    rw [List.map_cons, List.any_cons, ih]
    by_cases h : y = x
    · subst h
      simp [eqV]
    · have h2 : ¬ x = y := fun z => h z.symm
      simp [eqV, h, h2]
theorem flat_strs (ys : List Str) : (ys.map V.str).all flatV = true := by
  induction ys with
  | nil => rfl
  | cons y ys ih => simp [flatV] at ih ⊢
theorem kss {K : PySem.W.Frag} : PySem.W.kitOne K (.type "str") (.type "str") = some true := kit_ty (by decide +kernel)
theorem sz1000 : 1000 ≤ sizeLine := by show 1000 ≤ sizeLine; decide
theorem yes_of {σ : L2.St} {H : Hp} {A B : Hp → Prop} (h : A H) : tYes σ H (fun b H3 => if b = true then A H3 else B H3) := by
  show if true = true then A H else B H
  rw [if_pos rfl]
  exact h
theorem all_take (p : Nat → Bool) (l : List Nat) : (l.map p).all id = l.all p := by
  induction l with
  | nil => rfl
  | cons x l ih => simp [ih]
theorem RzK.of {K : PySem.W.Frag} {H H1 : Hp} {E : XK} {e : Er} {p : Addr} (h : RzK K p H E e) (k : Keep p H H1) : Rz K H1 E e := h.rz k
section
variable {P : Program} {w : World} {K : PySem.W.Frag} {mg : Str → Option Value} {base : Heap}
theorem sc_check_many : FnScope ["what", "things", "most"] ["what", "things", "most"] (defScope s_check_many) := ⟨rfl, rfl, rfl, by decide +kernel, rfl, by decide +kernel, by decide +kernel⟩
theorem ok_ckM {f : Addr} {fd : FuncData} (F : FnP K "check_many" s_check_many f fd) (T : PrTx K mg) (MT : Mx P w K mg base "TooMany" ["self", "what", "many", "limit"] ["what", "many", "limit"]) : FnOk P w K mg base (L2.CX P w) 3 f fd ["what", "things", "most"] (spCkM K) := by
  refine F.ok sc_check_many (fun vs H Q E h => ?_) (fun cdv A outer s H vs Q E hr h => ?_)
  · obtain ⟨w, l, m, xs, rfl, _⟩ := h
    rfl
  · obtain ⟨w, l, m, xs, rfl, hs, k⟩ := h
    refine ⟨_, (pss_one (ps_if (pt_cmpR op_gt (pe_callB call_len_seq (by rfl) T.len PySem.boot_len (pa_cons (pv 1) pa_nil)) (pv 2) (nomark _)) (pss_one (ps_raise rfl (takes_of rfl rfl rfl rfl) (pmk_err MT hr (pa_cons (pv 0) (pa_cons (pe_callB call_len_seq (by rfl) T.len PySem.boot_len (pa_cons (pv 1) pa_nil)) (pa_cons (pv 2) pa_nil)))))) pss_nil)), ?_⟩
    refine ⟨_, rfl, l, xs, rfl, hs, _, rfl, _, _, rfl, rfl, _, rfl, ?_⟩
    by_cases h1 : (xs.length : Int) ≤ m
    · rw [decide_eq_false (by omega)]
      exact iteF (k.2 (if_pos h1))
    · rw [decide_eq_true (by omega)]
      have bad := k.1 _ (if_neg h1)
      exact iteT ⟨_, rfl, _, rfl, l, xs, rfl, hs, _, rfl, err_go (K := K) (x := "TooMany") (fs := ["what", "many", "limit"]) (by show 3 ≤ 1000; decide) rfl fun d H' s hd => bad d H' s hd⟩
theorem sc_is_array_name : FnScope ["value", "letter"] ["value"] (defScope s_is_array_name) := ⟨rfl, rfl, rfl, by decide +kernel, rfl, by decide +kernel, by decide +kernel⟩
theorem ok_isName {f : Addr} {fd : FuncData} (F : FnP K "is_array_name" s_is_array_name f fd) (T : PrTx K mg) : FnOk P w K mg base CX0 1 f fd ["value"] spIsName := by
  refine F.ok sc_is_array_name (fun vs H Q E h => ?_) (fun cdv A outer s H vs Q E hr h => ?_)
  · obtain ⟨x, rfl, _⟩ := h
    rfl
  · obtain ⟨x, rfl, hx, k⟩ := h
    obtain ⟨tLe, hLe⟩ := T.gLe
    refine ⟨_, PSs.nox (pss_cons (ps_if (PW.pt (pw_or (pt_not (pt_val (pe_callB call_isi (by rfl) T.isi (by decide +kernel) (pa_cons (pv 0) (pa_cons (pe_bltn (v := .ty "str") (by rfl) T.str (by decide +kernel) rfl) pa_nil))))) (pw_or1 (pt_not (pt_chain op_le op_le pe_int (pe_callB call_len_str (by rfl) T.len PySem.boot_len (pa_cons (pv 0) pa_nil)) pe_int))))) (pss_one (ps_ret pe_bl)) pss_nil)
      (pss_one (ps_ret (pe_and (pe_callB (cr_all rfl) (by rfl) T.all (by decide +kernel) (pa_cons (pe_lc (own := [("letter", 1)]) (g := gName 1) (tt := tYes) rfl sc_is_array_name.nd (pi_str (pv 0)) (blkOk_by (N := ["value", "letter"]) (sc := defScope s_is_array_name) (by decide +kernel)) (fun _ _ _ _ _ => (pg_name (i := 1) sc_is_array_name.nd rfl (.inl rfl))) (fun _ _ _ _ _ => pts_nil) (fun _ _ _ _ _ => (pe_cmpR op_in_sign (pv 1) (pe_glob (v := .str lets) rfl hLe ⟨tLe, rfl⟩) rfl))) pa_nil)) (pe_one (pe_cmpR op_notIn_seq (pv 0) (pe_glob (v := .ref (He.ga K "KEPT_WORDS")) rfl T.gKW rfl) (by with_unfolding_all rfl))))))), ?_⟩
    have hz : x.length ≤ sizeLine := Nat.le_trans hx sz1000
    refine ⟨_, rfl, _, _, _, _, _, rfl, .ty _, .base (.str x), kss, _, rfl, ?_⟩
    refine if_no rfl ?_
    refine ⟨_, rfl, _, rfl, hz, _, _, rfl, rfl, _, rfl, ?_⟩
    have no : ¬ (1 ≤ x.length ∧ x.length ≤ 8) → Q (.bl false) H := fun z => by
      have q := k H (Same.refl H)
      unfold isName at q
      rw [decide_eq_false z] at q
      exact q
    by_cases h1 : (1 : Int) ≤ (x.length : Int)
    · rw [decide_eq_true h1]
      refine iteT ⟨_, _, rfl, rfl, _, rfl, ?_⟩
      by_cases h2 : (x.length : Int) ≤ 8
      · rw [decide_eq_true h2]
        refine if_no rfl ?_
        refine ⟨_, rfl, x, rfl, fun D hD => ?_⟩
        refine lc_str (fun i Hc => Hc D = some (.lst ((((x.cps.toList.take i).map fun c => decide (c ∈ lets.cps.toList))).map V.bl)) ∧ ∀ b o, H b = some o → Hc b = some o) ⟨upd_same, Same.new _ (Same.refl H) hD⟩ ?_ ?_
        · rintro i c Hc hc ⟨hc1, hc2⟩
          refine ⟨rfl, yes_of ?_⟩
          refine ⟨_, rfl, c, lets, rfl, rfl, ?_⟩
          have hi : i < x.cps.toList.length := by
            rw [Array.length_toList]
            exact (Array.getElem?_eq_some_iff.mp hc).1
          have ci : x.cps.toList[i]? = some c := by
            rw [Array.getElem?_toList]
            exact hc
          refine ⟨_, hc1, ?_, ?_, fun b o e => ?_⟩
          · rw [List.length_map, List.length_map, List.length_take]
            have : x.cps.toList.length = x.length := Array.length_toList
            have := sz1000
            omega
          · rw [upd_same, List.take_add_one, ci]
            simp
          · rw [upd_ne (ne_of_none e hD)]
            exact hc2 b o e
        · rintro Hc ⟨hc1, hc2⟩
          rw [show x.cps.size = x.cps.toList.length from Array.length_toList.symm, List.take_length] at hc1
          refine ⟨D, _, rfl, SqL.of hc1, ?_⟩
          have e1 : (x.cps.toList.map fun c => decide (c ∈ lets.cps.toList)).all id = x.cps.toList.all fun c => decide (c ∈ lets.cps.toList) := all_take _ _
          rw [e1]
          have q := k Hc hc2
          unfold isName at q
          rw [decide_eq_true (show 1 ≤ x.length ∧ x.length ≤ 8 by omega), Bool.true_and] at q
          cases ha : x.cps.toList.all fun c => decide (c ∈ lets.cps.toList) with
          | false =>
            rw [ha] at q
            exact ⟨_, rfl, if_no rfl q⟩
          | true =>
            rw [ha, Bool.true_and] at q
            refine ⟨_, rfl, if_yes rfl ?_⟩
            refine ⟨_, rfl, _, _, rfl, .inr (T.tKW Hc), rfl, flat_strs kept, ?_⟩
            rw [inv_strs]
            show Q (.bl (!decide (x ∈ kept))) Hc
            rw [← decide_not]
            exact q
      · rw [decide_eq_false h2]
        exact if_yes rfl (no (by omega))
    · rw [decide_eq_false h1]
      exact iteF ⟨_, rfl, if_yes rfl (no (by omega))⟩
theorem sc_check_name : FnScope ["array"] ["array"] (defScope s_check_name) := ⟨rfl, rfl, rfl, by decide +kernel, rfl, by decide +kernel, by decide +kernel⟩
theorem ok_ckA {f : Addr} {fd : FuncData} (F : FnP K "check_name" s_check_name f fd) (MN : Mx P w K mg base "BadName" ["self", "name"] ["name"]) (dIsName : Dn P w K mg base 1 "is_array_name" ["value"] spIsName) : FnOk P w K mg base (L2.CX P w) 3 f fd ["array"] (spCkA K) := by
  refine F.ok sc_check_name (fun vs H Q E h => ?_) (fun cdv A outer s H vs Q E hr h => ?_)
  · obtain ⟨x, rfl, _⟩ := h
    rfl
  · obtain ⟨x, rfl, hx, k⟩ := h
    refine ⟨_, (pss_one (ps_if (pt_not (pt_val (pe_dn dIsName hr (pa_cons (pv 0) pa_nil)))) (pss_one (ps_raise rfl (takes_of rfl rfl rfl rfl) (pmk_err MN hr (pa_cons (pv 0) pa_nil)))) pss_nil)), ?_⟩
    refine ⟨_, rfl, x, rfl, hx, fun H1 s1 => ⟨_, rfl, ?_⟩⟩
    cases e : isName x with
    | true => exact if_no rfl (k.2 (if_pos e) H1 s1)
    | false =>
      have bad := (k.1 (.name x) (if_neg (by rw [e]; simp))).same s1
      exact if_yes rfl ⟨_, rfl, err_go (K := K) (x := "BadName") (fs := ["name"]) (by show 1 ≤ 1000; decide) rfl fun d H' s hd => bad d H' s hd⟩
theorem sc_check_sum : FnScope ["straight"] ["straight"] (defScope s_check_sum) := ⟨rfl, rfl, rfl, by decide +kernel, rfl, by decide +kernel, by decide +kernel⟩
theorem ok_ckS {f : Addr} {fd : FuncData} (F : FnP K "check_sum" s_check_sum f fd) (T : PrTx K mg) (dCkN : Dx P w K mg base 3 "check_number" ["what", "number", "low", "high"] (spCkN K)) : FnOk P w K mg base (L2.CX P w) 4 f fd ["straight"] (spCkS K) := by
  refine F.ok sc_check_sum (fun vs H Q E h => ?_) (fun cdv A outer s H vs Q E hr h => ?_)
  · obtain ⟨q, a, b, c, rfl, _⟩ := h
    rfl
  · obtain ⟨q, a, b, c, rfl, ⟨dx, hq⟩, k⟩ := h
    obtain ⟨tTOP_PART, hTOP_PART⟩ := T.con ("TOP_PART", 12) (by simp)
    obtain ⟨tTOP_ONE, hTOP_ONE⟩ := T.con ("TOP_ONE", 999) (by simp)
    refine ⟨_, (pss_cons (ps_expr (pe_dx (K := K) dCkN rfl hr (fun σ => passAt (takes_of rfl rfl rfl rfl) σ) (pa_cons pe_str (pa_cons (pe_fld (pv 0) rfl) (pa_cons (pe_un un_neg (pe_glob (v := .int 12) rfl hTOP_PART ⟨tTOP_PART, rfl⟩)) (pa_cons (pe_glob (v := .int 12) rfl hTOP_PART ⟨tTOP_PART, rfl⟩) pa_nil))))))
      (pss_cons (ps_expr (pe_dx (K := K) dCkN rfl hr (fun σ => passAt (takes_of rfl rfl rfl rfl) σ) (pa_cons pe_str (pa_cons (pe_fld (pv 0) rfl) (pa_cons (pe_un un_neg (pe_glob (v := .int 12) rfl hTOP_PART ⟨tTOP_PART, rfl⟩)) (pa_cons (pe_glob (v := .int 12) rfl hTOP_PART ⟨tTOP_PART, rfl⟩) pa_nil))))))
      (pss_one (ps_expr (pe_dx (K := K) dCkN rfl hr (fun σ => passAt (takes_of rfl rfl rfl rfl) σ) (pa_cons pe_str (pa_cons (pe_fld (pv 0) rfl) (pa_cons (pe_un un_neg (pe_glob (v := .int 999) rfl hTOP_ONE ⟨tTOP_ONE, rfl⟩)) (pa_cons (pe_glob (v := .int 999) rfl hTOP_ONE ⟨tTOP_ONE, rfl⟩) pa_nil))))))))), ?_⟩
    refine ⟨_, rfl, q, _, dx, _, _, rfl, hq, T.clS, T.nI, sf_i _ _ _, _, rfl, _, _, _, _, rfl, k.or (fun _ z => z) fun k => ?_⟩
    refine ⟨_, rfl, q, _, dx, _, _, rfl, hq, T.clS, T.nN, sf_n _ _ _, _, rfl, _, _, _, _, rfl, k.or (fun _ z => z) fun k => ?_⟩
    exact ⟨_, rfl, q, _, dx, _, _, rfl, hq, T.clS, T.nO, sf_one _ _ _, _, rfl, _, _, _, _, rfl, k⟩
theorem sc_check_place : FnScope ["place"] ["place"] (defScope s_check_place) := ⟨rfl, rfl, rfl, by decide +kernel, rfl, by decide +kernel, by decide +kernel⟩
theorem ok_ckP {f : Addr} {fd : FuncData} (F : FnP K "check_place" s_check_place f fd) (T : PrTx K mg) (dCkN : Dx P w K mg base 3 "check_number" ["what", "number", "low", "high"] (spCkN K)) (dCkS : Dx P w K mg base 4 "check_sum" ["straight"] (spCkS K)) : FnOk P w K mg base (L2.CX P w) 5 f fd ["place"] (spCkP K) := by
  refine F.ok sc_check_place (fun vs H Q E h => ?_) (fun cdv A outer s H vs Q E hr h => ?_)
  · obtain ⟨q, a, b, c, d, rfl, _⟩ := h
    rfl
  · obtain ⟨q, a, b, c, d, rfl, ⟨dx, r, hq, hr1⟩, k⟩ := h
    obtain ⟨tTOP_DIVISOR, hTOP_DIVISOR⟩ := T.con ("TOP_DIVISOR", 3) (by simp)
    refine ⟨_, (pss_cons (ps_expr (pe_dx (K := K) dCkS rfl hr (fun σ => passAt (takes_of rfl rfl rfl rfl) σ) (pa_cons (pe_fld (pv 0) rfl) pa_nil)))
      (pss_one (ps_expr (pe_dx (K := K) dCkN rfl hr (fun σ => passAt (takes_of rfl rfl rfl rfl) σ) (pa_cons pe_str (pa_cons (pe_fld (pv 0) rfl) (pa_cons pe_int (pa_cons (pe_glob (v := .int 3) rfl hTOP_DIVISOR ⟨tTOP_DIVISOR, rfl⟩) pa_nil)))))))), ?_⟩
    refine ⟨_, rfl, q, _, dx, _, _, rfl, hq, T.plc.clP, T.plc.nS, pf_s _ _, r, a, b, c, rfl, hr1, k.or (fun _ z => z) fun k => ?_⟩
    exact ⟨_, rfl, q, _, dx, _, _, rfl, hq, T.plc.clP, T.plc.nD, pf_d _ _, _, _, _, _, rfl, k⟩
theorem sc_check_range_place : FnScope ["place"] ["place"] (defScope s_check_range_place) := ⟨rfl, rfl, rfl, by decide +kernel, rfl, by decide +kernel, by decide +kernel⟩
theorem ok_ckR {f : Addr} {fd : FuncData} (F : FnP K "check_range_place" s_check_range_place f fd) (T : PrTx K mg) (dCkN : Dx P w K mg base 3 "check_number" ["what", "number", "low", "high"] (spCkN K)) : FnOk P w K mg base (L2.CX P w) 4 f fd ["place"] (spCkR K) := by
  refine F.ok sc_check_range_place (fun vs H Q E h => ?_) (fun cdv A outer s H vs Q E hr h => ?_)
  · obtain ⟨q, a, b, c, d, rfl, _⟩ := h
    rfl
  · obtain ⟨q, a, b, c, d, rfl, ⟨dx, r, hp, dq, hq⟩, k⟩ := h
    obtain ⟨tTOP_ONE, hTOP_ONE⟩ := T.con ("TOP_ONE", 999) (by simp)
    obtain ⟨tTOP_RANGE_PART, hTOP_RANGE_PART⟩ := T.con ("TOP_RANGE_PART", 3) (by simp)
    obtain ⟨tTOP_DIVISOR, hTOP_DIVISOR⟩ := T.con ("TOP_DIVISOR", 3) (by simp)
    refine ⟨_, (pss_cons (ps_expr (pe_dx (K := K) dCkN rfl hr (fun σ => passAt (takes_of rfl rfl rfl rfl) σ) (pa_cons pe_str (pa_cons (pe_fld (pe_fld (pv 0) rfl) rfl) (pa_cons pe_int (pa_cons pe_int pa_nil))))))
      (pss_cons (ps_expr (pe_dx (K := K) dCkN rfl hr (fun σ => passAt (takes_of rfl rfl rfl rfl) σ) (pa_cons pe_str (pa_cons (pe_fld (pe_fld (pv 0) rfl) rfl) (pa_cons pe_int (pa_cons (pe_glob (v := .int 3) rfl hTOP_RANGE_PART ⟨tTOP_RANGE_PART, rfl⟩) pa_nil))))))
      (pss_cons (ps_expr (pe_dx (K := K) dCkN rfl hr (fun σ => passAt (takes_of rfl rfl rfl rfl) σ) (pa_cons pe_str (pa_cons (pe_fld (pe_fld (pv 0) rfl) rfl) (pa_cons (pe_un un_neg (pe_glob (v := .int 999) rfl hTOP_ONE ⟨tTOP_ONE, rfl⟩)) (pa_cons (pe_glob (v := .int 999) rfl hTOP_ONE ⟨tTOP_ONE, rfl⟩) pa_nil))))))
      (pss_one (ps_expr (pe_dx (K := K) dCkN rfl hr (fun σ => passAt (takes_of rfl rfl rfl rfl) σ) (pa_cons pe_str (pa_cons (pe_fld (pv 0) rfl) (pa_cons pe_int (pa_cons (pe_glob (v := .int 3) rfl hTOP_DIVISOR ⟨tTOP_DIVISOR, rfl⟩) pa_nil)))))))))), ?_⟩
    refine ⟨_, rfl, q, _, dx, _, _, rfl, hp, T.plc.clP, T.plc.nS, pf_s _ _, r, _, dq, _, _, rfl, hq, T.clS, T.nI, sf_i _ _ _, _, _, _, _, rfl, k.or (fun _ z => z) fun k => ?_⟩
    refine ⟨_, rfl, q, _, dx, _, _, rfl, hp, T.plc.clP, T.plc.nS, pf_s _ _, r, _, dq, _, _, rfl, hq, T.clS, T.nN, sf_n _ _ _, _, _, _, _, rfl, k.or (fun _ z => z) fun k => ?_⟩
    refine ⟨_, rfl, q, _, dx, _, _, rfl, hp, T.plc.clP, T.plc.nS, pf_s _ _, r, _, dq, _, _, rfl, hq, T.clS, T.nO, sf_one _ _ _, _, rfl, _, _, _, _, rfl, k.or (fun _ z => z) fun k => ?_⟩
    exact ⟨_, rfl, q, _, dx, _, _, rfl, hp, T.plc.clP, T.plc.nD, pf_d _ _, _, _, _, _, rfl, k⟩
theorem sc_place_like : FnScope ["value"] ["value"] (defScope s_place_like) := ⟨rfl, rfl, rfl, by decide +kernel, rfl, by decide +kernel, by decide +kernel⟩
theorem ok_pLike {f : Addr} {fd : FuncData} (F : FnP K "place_like" s_place_like f fd) (T : PrTx K mg) (MP : MkP P w K mg base) : FnOk P w K mg base CX0 6 f fd ["value"] (spPLike K) := by
  refine F.ok sc_place_like (fun vs H Q E h => ?_) (fun cdv A outer s H vs Q E hr h => ?_)
  · obtain ⟨v, a, b, c, d, rfl, _⟩ := h
    rfl
  · obtain ⟨v, a, b, c, d, rfl, h, k⟩ := h
    refine ⟨_, PSs.nox (pss_one (ps_ret (pe_ifExp (pt_val (pe_callB call_isi (by rfl) T.isi (by decide +kernel) (pa_cons (pv 0) (pa_cons (pe_glob (v := .ref (CP K)) rfl T.plc.gP rfl) pa_nil)))) (pv 0) (pe_P T.plc MP hr at_E0 (pa_cons (pv 0) (pa_cons pe_int pa_nil)))))), ?_⟩
    have g1 : gg a b 1 = 1 := Nat.gcd_one_right _
    have go : ∀ q H', Same H H' → PlcAt K H' q (a.fdiv (gg a b 1)) (b.fdiv (gg a b 1)) (c.fdiv (gg a b 1)) ((1 : Int).fdiv (gg a b 1)) → d = 1 → Q (.ref q) H' := fun q H' s hq e => by
      rw [g1] at hq
      subst e
      have e1 : ((1 : Nat) : Int) = 1 := rfl
      rw [e1, Int.fdiv_one, Int.fdiv_one, Int.fdiv_one, Int.fdiv_one] at hq
      exact k q H' s hq
    rcases h with ⟨q, rfl, hq⟩ | ⟨hv, hd⟩
    · refine ⟨_, rfl, _, _, _, _, _, rfl, .own _, .base (T.plc.pty hq), T.plc.kPP, _, rfl, iteT ?_⟩
      exact ⟨_, rfl, k q H (Same.refl H) hq⟩
    · have fin : rPlG K v 1 H (fun y H' => Q y H') E0 := ⟨a, b, c, hv, fun z => absurd z (by decide), fun _ => ⟨by rw [g1]; decide, fun q H' s hq => go q H' s hq hd⟩⟩
      rcases id hv with ⟨q, rfl, hq⟩ | ⟨rfl, _, _⟩
      · refine ⟨_, rfl, _, _, _, _, _, rfl, .own _, .base (T.ty hq), T.plc.kSP, _, rfl, iteF ?_⟩
        exact ⟨_, rfl, _, 1, rfl, fin⟩
      · refine ⟨_, rfl, _, _, _, _, _, rfl, .own _, .base (.int c), T.plc.kiP, _, rfl, iteF ?_⟩
        exact ⟨_, rfl, _, 1, rfl, fin⟩
end
end K35
set_option maxHeartbeats 4000000
namespace K35
open PySem PySem.Spec PyProof.Rows L2 Z
theorem pl {f : Str} {v : V} {fs : List (Str × V)} {n : Nat} (h : fs.length < n) : (putF f v fs).length < n + 1 := Nat.lt_of_le_of_lt (length_putF f v fs) (Nat.succ_lt_succ h)
theorem pl0 {n : Nat} : ([] : List (Str × V)).length < n + 1 := Nat.succ_pos _
theorem ins_inj {H : Hp} {p C D dx dy : Addr} {fs gs : List (Str × V)} (h1 : H p = some (.ins C dx fs)) (h2 : H p = some (.ins D dy gs)) : fs = gs := by
  rw [h1] at h2
  exact congrArg (fun o : Option HO => match o with | some (.ins _ _ fs) => fs | _ => []) h2
section
variable {K : PySem.W.Frag} {H H' : Hp} {p C dx : Addr} {fs : List (Str × V)}
theorem _root_.Z.StrAt.up {q : Addr} {a b c : Int} (h : StrAt K H q a b c) (hp : H p = some (.ins C dx fs)) (k : Keep p H H') (ni : fs.lookup ("i" : Str) = none) : StrAt K H' q a b c := by
  obtain ⟨dq, hq⟩ := h
  refine ⟨dq, k _ _ (fun z => ?_) hq⟩
  subst z
  have e := ins_inj hp hq
  rw [e, sf_i] at ni
  cases ni
theorem _root_.Z.PlcAt.up {q : Addr} {a b c d : Int} (h : PlcAt K H q a b c d) (hp : H p = some (.ins C dx fs)) (k : Keep p H H') (nl : fs.lookup ("straight" : Str) = none) (ni : fs.lookup ("i" : Str) = none) : PlcAt K H' q a b c d := by
  obtain ⟨dq, r, hq, hr⟩ := h
  refine ⟨dq, r, k _ _ (fun z => ?_) hq, hr.up hp k ni⟩
  subst z
  have e := ins_inj hp hq
  rw [e, pf_s] at nl
  cases nl
theorem _root_.Z.SumV.up {v : V} {a b c : Int} (h : SumV K H v a b c) (hp : H p = some (.ins C dx fs)) (k : Keep p H H') (ni : fs.lookup ("i" : Str) = none) : SumV K H' v a b c := by
  rcases h with ⟨q, e, hq⟩ | h
  · exact .inl ⟨q, e, hq.up hp k ni⟩
  · exact .inr h
theorem PlV.up {v : V} {a b c d : Int} (h : PlV K H v a b c d) (hp : H p = some (.ins C dx fs)) (k : Keep p H H') (nl : fs.lookup ("straight" : Str) = none) (ni : fs.lookup ("i" : Str) = none) : PlV K H' v a b c d := by
  rcases h with ⟨q, e, hq⟩ | ⟨h, e⟩
  · exact .inl ⟨q, e, hq.up hp k nl ni⟩
  · exact .inr ⟨h.up hp k ni, e⟩
theorem rd_up {l : Addr} {u : HO} (h : Rd H l u) (hp : H p = some (.ins C dx fs)) (k : Keep p H H') (nu : ∀ C d fs, u ≠ .ins C d fs) : Rd H' l u := by
  rcases h with h | ⟨o, h⟩
  · refine .inl (k _ _ (fun z => ?_) h)
    subst z
    rw [hp] at h
    exact nu _ _ _ (Option.some.inj h).symm
  · refine .inr ⟨o, k _ _ (fun z => ?_) h⟩
    subst z
    rw [hp] at h
    cases h
theorem SqT.up {l : Addr} {xs : List V} (h : SqT K H l xs) (hp : H p = some (.ins C dx fs)) (k : Keep p H H') : SqT K H' l xs := h.imp (fun r => rd_up r hp k fun _ _ _ z => by cases z) id
theorem SqL.up {l : Addr} {xs : List V} (h : SqL K H l xs) (hp : H p = some (.ins C dx fs)) (k : Keep p H H') : SqL K H' l xs := h.imp (fun r => rd_up r hp k fun _ _ _ z => by cases z) id
theorem SqA.up {l : Addr} {xs : List V} (h : SqA K H l xs) (hp : H p = some (.ins C dx fs)) (k : Keep p H H') : SqA K H' l xs := h.imp (fun r => SqL.up r hp k) fun r => SqT.up r hp k
theorem rd_same {l : Addr} {u : HO} (h : Rd H l u) (s : Same H H') : Rd H' l u := h.imp (fun h => s _ _ h) fun ⟨o, h⟩ => ⟨o, s _ _ h⟩
theorem SqT.same {l : Addr} {xs : List V} (h : SqT K H l xs) (s : Same H H') : SqT K H' l xs := h.imp (fun r => rd_same r s) id
theorem SqL.same {l : Addr} {xs : List V} (h : SqL K H l xs) (s : Same H H') : SqL K H' l xs := h.imp (fun r => rd_same r s) id
theorem SqA.same {l : Addr} {xs : List V} (h : SqA K H l xs) (s : Same H H') : SqA K H' l xs := h.imp (fun r => SqL.same r s) fun r => SqT.same r s
theorem Keep.ofSame (s : Same H H') : Keep p H H' := fun b o _ e => s b o e
theorem keep_upd {o : HO} (k : Keep p H H') : Keep p H (upd H' p o) := fun b u nb e => by
  rw [upd_ne nb]
  exact k b u nb e
theorem keep_upd1 {o : HO} : Keep p H (upd H p o) := keep_upd fun _ _ _ e => e
theorem keep_trans {H'' : Hp} (k : Keep p H H') (s : Same H' H'') : Keep p H H'' := fun b u nb e => s _ _ (k b u nb e)
theorem keep_trans2 {H'' : Hp} (k : Keep p H H') (s : Keep p H' H'') : Keep p H H'' := fun b u nb e => s _ _ nb (k b u nb e)
theorem for_any {a : Addr} {xs : List V} {g : TG} {tb : TS} {D : Ends} {σ : L2.St} (hq : SqA K H a xs) (Pv : Nat → L2.St → Hp → Prop) (h0 : Pv 0 σ H) (hl : ∀ i σ' H', Pv i σ' H' → Same H H')
    (hs : ∀ i x σ H, xs[i]? = some x → Pv i σ H → g x σ H fun σ2 H2 => tb { D with nx := Pv (i + 1), ct := Pv (i + 1), bk := D.nx } σ2 H2) (hd : ∀ σ H, Pv xs.length σ H → D.nx σ H) :
    ((∃ xs, SqL K H a xs) ∧ ∃ W : Nat → Nat → L2.St → Hp → Prop, (∃ m, W 0 m σ H) ∧ ∀ i m σ H, W i m σ H →
      ((Itl K a).stop i H ∧ D.nx σ H) ∨ ((Itl K a).go i H ∧ ∃ N : L2.St → Hp → Prop, (∀ σ' H', N σ' H' → ∃ m', m' < m ∧ W (i + 1) m' σ' H') ∧ ∀ x H', (Itl K a).yld i H x H' → g x σ H' fun σ2 H2 => tb { D with nx := N, ct := N, bk := D.nx } σ2 H2)) ∨
    ((∃ xs, SqT K H a xs) ∧ ∃ W : Nat → Nat → L2.St → Hp → Prop, (∃ m, W 0 m σ H) ∧ ∀ i m σ H, W i m σ H →
      ((Itt K a).stop i H ∧ D.nx σ H) ∨ ((Itt K a).go i H ∧ ∃ N : L2.St → Hp → Prop, (∀ σ' H', N σ' H' → ∃ m', m' < m ∧ W (i + 1) m' σ' H') ∧ ∀ x H', (Itt K a).yld i H x H' → g x σ H' fun σ2 H2 => tb { D with nx := N, ct := N, bk := D.nx } σ2 H2)) := by
  rcases hq with h | h
  · exact .inl ⟨⟨xs, h⟩, for_list Pv h0 (fun i σ' H' _ q => SqL.same h (hl i σ' H' q)) hs hd⟩
  · exact .inr ⟨⟨xs, h⟩, for_tup Pv h0 (fun i σ' H' _ q => SqT.same h (hl i σ' H' q)) hs hd⟩
end
def rdf (x : Str) (q : Addr) (f : Int) : List (Str × V) := putF "factor" (.int f) (putF "place" (.ref q) (putF "array" (.str x) []))
def stf (x : Str) (q : Addr) (k : Int) (r g : Addr) : List (Str × V) := putF "conditions" (.ref g) (putF "reads" (.ref r) (putF "constant" (.int k) (putF "cell" (.ref q) (putF "array" (.str x) []))))
theorem ne1 : ¬ (("array" : Str) = "place") := by decide +kernel
theorem ne2 : ¬ (("array" : Str) = "factor") := by decide +kernel
theorem ne3 : ¬ (("place" : Str) = "factor") := by decide +kernel
theorem ne4 : ¬ (("array" : Str) = "cell") := by decide +kernel
theorem ne5 : ¬ (("array" : Str) = "constant") := by decide +kernel
theorem ne6 : ¬ (("array" : Str) = "reads") := by decide +kernel
theorem ne7 : ¬ (("array" : Str) = "conditions") := by decide +kernel
theorem ne13 : ¬ (("reads" : Str) = "conditions") := by decide +kernel
theorem rdf_a (x : Str) (q : Addr) (f : Int) : (rdf x q f).lookup ("array" : Str) = some (.str x) := by
  unfold rdf
  rw [lookup_putF, if_neg ne2, lookup_putF, if_neg ne1, lookup_putF, if_pos rfl]
theorem rdf_p (x : Str) (q : Addr) (f : Int) : (rdf x q f).lookup ("place" : Str) = some (.ref q) := by
  unfold rdf
  rw [lookup_putF, if_neg ne3, lookup_putF, if_pos rfl]
theorem stf_a (x : Str) (q : Addr) (k : Int) (r g : Addr) : (stf x q k r g).lookup ("array" : Str) = some (.str x) := by
  unfold stf
  rw [lookup_putF, if_neg ne7, lookup_putF, if_neg ne6, lookup_putF, if_neg ne5, lookup_putF, if_neg ne4, lookup_putF, if_pos rfl]
theorem stf_r (x : Str) (q : Addr) (k : Int) (r g : Addr) : (stf x q k r g).lookup ("reads" : Str) = some (.ref r) := by
  unfold stf
  rw [lookup_putF, if_neg ne13, lookup_putF, if_pos rfl]
theorem stf_g (x : Str) (q : Addr) (k : Int) (r g : Addr) : (stf x q k r g).lookup ("conditions" : Str) = some (.ref g) := by
  unfold stf
  rw [lookup_putF, if_pos rfl]
section
variable (K : PySem.W.Frag)
def RdAt (H : Hp) (p : Addr) (x : Str) (a b c d f : Int) : Prop := ∃ dx q, H p = some (.ins (CRd K) dx (rdf x q f)) ∧ PlcAt K H q a b c d
/-- a condition: its sum -/
def CndAt (H : Hp) (v : V) (t : Int × Int × Int) : Prop := ∃ r C dx fs q, v = .ref r ∧ H r = some (.ins C dx fs) ∧ Cls K C ∧ NoAttr K C "straight" ∧ fs.lookup ("straight" : Str) = some (.ref q) ∧ StrAt K H q t.1 t.2.1 t.2.2
def Cnds (H : Hp) (cs : List V) (cc : List (Int × Int × Int)) : Prop := cs.length = cc.length ∧ ∀ (i : Nat) (v : V) (t : Int × Int × Int), cs[i]? = some v → cc[i]? = some t → CndAt K H v t
def StmAt (H : Hp) (p : Addr) (x : Str) (a b c k : Int) (rs cs : List V) : Prop := ∃ dx q r g, H p = some (.ins (CSt K) dx (stf x q k r g)) ∧ StrAt K H q a b c ∧ SqT K H r rs ∧ SqT K H g cs
def spRdI : Sp := fun vs H Q E => ∃ (p dx : Addr) (x : Str) (v : V) (f a b c d : Int), vs = [.ref p, .str x, v, .int f] ∧ H p = some (.ins (CRd K) dx []) ∧ x.length ≤ 1000 ∧ PlV K H v a b c d ∧
  Out (ckRead x f a b c d) (RzK K p H E) (∀ q H', H' p = some (.ins (CRd K) dx (rdf x q f)) → PlcAt K H' q a b c d → Keep p H H' → Q .non H')
def spStI : Sp := fun vs H Q E => ∃ (p dx : Addr) (x : Str) (v : V) (k : Int) (lr lc : Addr) (rs cs : List V) (cc : List (Int × Int × Int)) (a b c : Int), vs = [.ref p, .str x, v, .int k, .ref lr, .ref lc] ∧ H p = some (.ins (CSt K) dx []) ∧ x.length ≤ 1000 ∧ SumV K H v a b c ∧
  SqA K H lr rs ∧ SqA K H lc cs ∧ Cnds K H cs cc ∧ Out (ckStm rs.length cs.length x cc a b c k) (RzK K p H E) (∀ q r g H', H' p = some (.ins (CSt K) dx (stf x q k r g)) → StrAt K H' q a b c → SqT K H' r rs → SqT K H' g cs → Keep p H H' → Q .non H')
end
theorem CndAt.same {K : PySem.W.Frag} {H H' : Hp} {v : V} {t : Int × Int × Int} (h : CndAt K H v t) (s : Same H H') : CndAt K H' v t := by
  obtain ⟨r, C, dx, fs, q, e, h1, h2, h3, h4, h5⟩ := h
  exact ⟨r, C, dx, fs, q, e, s _ _ h1, h2, h3, h4, h5.same s⟩
theorem Cnds.same {K : PySem.W.Frag} {H H' : Hp} {cs : List V} {cc : List (Int × Int × Int)} (h : Cnds K H cs cc) (s : Same H H') : Cnds K H' cs cc := ⟨h.1, fun i v t h1 h2 => (h.2 i v t h1 h2).same s⟩
theorem RdAt.same {K : PySem.W.Frag} {H H' : Hp} {p : Addr} {x : Str} {a b c d f : Int} (h : RdAt K H p x a b c d f) (s : Same H H') : RdAt K H' p x a b c d f := by
  obtain ⟨dx, q, h, h2⟩ := h
  exact ⟨dx, q, s _ _ h, h2.same s⟩
theorem StmAt.same {K : PySem.W.Frag} {H H' : Hp} {p : Addr} {x : Str} {a b c k : Int} {rs cs : List V} (h : StmAt K H p x a b c k rs cs) (s : Same H H') : StmAt K H' p x a b c k rs cs := by
  obtain ⟨dx, q, r, g, h, h2, h3, h4⟩ := h
  exact ⟨dx, q, r, g, s _ _ h, h2.same s, SqT.same h3 s, SqT.same h4 s⟩
section
variable {P : Program} {w : World} {K : PySem.W.Frag} {mg : Str → Option Value} {base : Heap}
theorem scRead__init__ : FnScope ["self", "array", "place", "factor"] ["self", "array", "place", "factor"] (defScope iRead__init__) := ⟨rfl, rfl, rfl, by decide +kernel, rfl, by decide +kernel, by decide +kernel⟩
theorem ok_RdI {fd : FuncData} {kws : List (Str × V)} (F : FunD K "__init__" "Read.__init__" (defArgs iRead__init__) (defBody iRead__init__) (defScope iRead__init__) [] kws (He.ma K (CRd K) "__init__") fd) (T : PrTx K mg) (MB : Mx P w K mg base "BadNumber" ["self", "what", "number"] ["what", "number"])
    (dCkA : Dx P w K mg base 3 "check_name" ["array"] (spCkA K)) (dCkN : Dx P w K mg base 3 "check_number" ["what", "number", "low", "high"] (spCkN K)) (dPLike : Dn P w K mg base 6 "place_like" ["value"] (spPLike K)) (dCkP : Dx P w K mg base 5 "check_place" ["place"] (spCkP K)) :
    FnOk P w K mg base (L2.CX P w) 7 (He.ma K (CRd K) "__init__") fd ["self", "array", "place", "factor"] (spRdI K) := by
  refine F.ok scRead__init__ (fun vs H Q E h => ?_) (fun cdv A outer s H vs Q E hr h => ?_)
  · obtain ⟨p, dx, x, v, f, a, b, c, d, rfl, _⟩ := h
    rfl
  · obtain ⟨p, dx, x, v, f, a, b, c, d, rfl, hp, hx, hv, k⟩ := h
    obtain ⟨tTOP_ONE, hTOP_ONE⟩ := T.con ("TOP_ONE", 999) (by simp)
    refine ⟨_, (pss_cons (ps_expr (pe_dx (K := K) dCkA rfl hr (fun σ => passAt (takes_of rfl rfl rfl rfl) σ) (pa_cons (pv 1) pa_nil)))
      (pss_cons (ps_if (pt_cmpR op_eq (pv 3) pe_int (nomark _)) (pss_one (ps_raise rfl (takes_of rfl rfl rfl rfl) (pmk_err MB hr (pa_cons pe_str (pa_cons (pv 3) pa_nil))))) pss_nil)
      (pss_cons (ps_expr (pe_dx (K := K) dCkN rfl hr (fun σ => passAt (takes_of rfl rfl rfl rfl) σ) (pa_cons pe_str (pa_cons (pv 3) (pa_cons (pe_un un_neg (pe_glob (v := .int 999) rfl hTOP_ONE ⟨tTOP_ONE, rfl⟩)) (pa_cons (pe_glob (v := .int 999) rfl hTOP_ONE ⟨tTOP_ONE, rfl⟩) pa_nil))))))
      (pss_cons (ps_fld (pv 0) (pv 1) rfl)
      (pss_cons (ps_fld (pv 0) (pe_dn dPLike hr (pa_cons (pv 2) pa_nil)) rfl)
      (pss_cons (ps_fld (pv 0) (pv 3) rfl)
      (pss_one (ps_expr (pe_dx (K := K) dCkP rfl hr (fun σ => passAt (takes_of rfl rfl rfl rfl) σ) (pa_cons (pe_fld (pv 0) rfl) pa_nil)))))))))), ?_⟩
    refine ⟨_, rfl, x, rfl, hx, k.or (fun e z => z.rz (Keep.ofSame (Same.refl H))) fun k H1 s1 => ?_⟩
    have k1 : ∀ e, RzK K p H E e → Rz K H1 E e := fun e z => z.rz (Keep.ofSame s1)
    refine ⟨_, rfl, rfl, _, rfl, ?_⟩
    by_cases hf : f = 0
    · subst hf
      have bad := k1 _ (k.1 (.num "factor" 0) rfl)
      exact if_yes (decide_eq_true rfl) ⟨_, rfl, err_go (K := K) (x := "BadNumber") (fs := ["what", "number"]) (by show 2 ≤ 1000; decide) rfl fun d H' s hd => bad d H' s hd⟩
    rw [if_neg hf] at k
    refine if_no (decide_eq_false fun z => hf (V.int.inj z)) ?_
    refine ⟨_, rfl, _, rfl, _, _, _, _, rfl, Out.or (o1 := ckN "factor" f (-999) 999) k k1 fun k => ?_⟩
    refine ⟨_, rfl, _, rfl, p, _, dx, _, rfl, s1 _ _ hp, T.clR, T.nRA, pl0, ?_⟩
    have n1 : (putF "array" (V.str x) []).lookup ("straight" : Str) = none ∧ (putF "array" (V.str x) []).lookup ("i" : Str) = none := by
      rw [lookup_putF, if_neg (by decide +kernel), lookup_putF, if_neg (by decide +kernel)]
      exact ⟨rfl, rfl⟩
    have hv1 := (hv.same s1).up (s1 _ _ hp) (keep_upd1 (o := .ins (CRd K) dx (putF "array" (.str x) []))) rfl rfl
    refine ⟨_, rfl, v, a, b, c, d, rfl, hv1, fun q H2 s2 hq => ?_⟩
    have hp2 := s2 _ _ (upd_same (H := H1) (a := p))
    have kp2 : Keep p H H2 := keep_trans (keep_upd (Keep.ofSame s1)) s2
    refine ⟨_, rfl, p, _, dx, _, rfl, hp2, T.clR, T.nRP, pl pl0, ?_⟩
    have hq1 := hq.up hp2 (keep_upd1 (o := .ins (CRd K) dx (putF "place" (.ref q) (putF "array" (.str x) [])))) n1.1 n1.2
    refine ⟨_, rfl, _, rfl, p, _, dx, _, rfl, upd_same, T.clR, T.nRF, pl (pl pl0), ?_⟩
    have n2 : (putF "place" (V.ref q) (putF "array" (V.str x) [])).lookup ("straight" : Str) = none ∧ (putF "place" (V.ref q) (putF "array" (V.str x) [])).lookup ("i" : Str) = none := by
      rw [lookup_putF, if_neg (by decide +kernel), lookup_putF (f := "place"), if_neg (by decide +kernel)]
      exact n1
    have hq2 := hq1.up upd_same (keep_upd1 (o := .ins (CRd K) dx (rdf x q f))) n2.1 n2.2
    have kp3 : Keep p H (upd (upd H2 p (.ins (CRd K) dx (putF "place" (.ref q) (putF "array" (.str x) [])))) p (.ins (CRd K) dx (rdf x q f))) := keep_upd (keep_upd kp2)
    refine ⟨_, rfl, p, _, dx, _, _, rfl, upd_same, T.clR, T.nRP, rdf_p x q f, q, a, b, c, d, rfl, hq2, Out.end_ k (fun e z => z.rz kp3) fun k => ?_⟩
    exact k q _ upd_same hq2 kp3
end
end K35
set_option maxHeartbeats 4000000
namespace K35
open PySem PySem.Spec PyProof.Rows L2 Z
section
variable {P : Program} {w : World} {K : PySem.W.Frag} {mg : Str → Option Value} {base : Heap}
theorem nlk {f g : Str} {v : V} {fs : List (Str × V)} (h : ¬ g = f) (k : fs.lookup g = none) : (putF f v fs).lookup g = none := by
  rw [lookup_putF, if_neg h]
  exact k
theorem cnd_at {K : PySem.W.Frag} {H : Hp} {cs : List V} {cc : List (Int × Int × Int)} (h : Cnds K H cs cc) {i : Nat} {v : V} (hv : cs[i]? = some v) : ∃ t, cc[i]? = some t ∧ CndAt K H v t ∧ cc.drop i = t :: cc.drop (i + 1) := by
  have hi : i < cs.length := by
    rw [List.getElem?_eq_some_iff] at hv
    exact hv.1
  have hj : i < cc.length := by rw [← h.1]; exact hi
  refine ⟨cc[i], List.getElem?_eq_getElem hj, h.2 i v _ hv (List.getElem?_eq_getElem hj), ?_⟩
  exact List.drop_eq_getElem_cons hj
theorem scStatement__init__ : FnScope ["self", "array", "cell", "constant", "reads", "conditions", "condition"] ["self", "array", "cell", "constant", "reads", "conditions"] (defScope iStatement__init__) := ⟨rfl, rfl, rfl, by decide +kernel, rfl, by decide +kernel, by decide +kernel⟩
theorem ok_StI {fd : FuncData} {kws : List (Str × V)} (F : FunD K "__init__" "Statement.__init__" (defArgs iStatement__init__) (defBody iStatement__init__) (defScope iStatement__init__) [] kws (He.ma K (CSt K) "__init__") fd) (T : PrTx K mg)
    (dCkM : Dx P w K mg base 3 "check_many" ["what", "things", "most"] (spCkM K)) (dCkA : Dx P w K mg base 3 "check_name" ["array"] (spCkA K)) (dCkN : Dx P w K mg base 3 "check_number" ["what", "number", "low", "high"] (spCkN K))
    (dCkS : Dx P w K mg base 4 "check_sum" ["straight"] (spCkS K)) (dLike : Dn P w K mg base 3 "straight_like" ["value"] (spLike K)) :
    FnOk P w K mg base (L2.CX P w) 5 (He.ma K (CSt K) "__init__") fd ["self", "array", "cell", "constant", "reads", "conditions"] (spStI K) := by
  refine F.ok scStatement__init__ (fun vs H Q E h => ?_) (fun cdv A outer s H vs Q E hr h => ?_)
  · obtain ⟨p, dx, x, v, k, lr, lc, rs, cs, cc, a, b, c, rfl, _⟩ := h
    rfl
  · obtain ⟨p, dx, x, v, k, lr, lc, rs, cs, cc, a, b, c, rfl, hp, hx, hv, hlr, hlc, hcc, kk⟩ := h
    obtain ⟨tTOP_ONE, hTOP_ONE⟩ := T.con ("TOP_ONE", 999) (by simp)
    obtain ⟨tMOST_READS, hMOST_READS⟩ := T.con ("MOST_READS", 3) (by simp)
    obtain ⟨tMOST_CONDITIONS, hMOST_CONDITIONS⟩ := T.con ("MOST_CONDITIONS", 3) (by simp)
    refine ⟨_, (pss_cons (ps_expr (pe_dx (K := K) dCkM rfl hr (fun σ => passAt (takes_of rfl rfl rfl rfl) σ) (pa_cons pe_str (pa_cons (pv 4) (pa_cons (pe_glob (v := .int 3) rfl hMOST_READS ⟨tMOST_READS, rfl⟩) pa_nil)))))
      (pss_cons (ps_expr (pe_dx (K := K) dCkM rfl hr (fun σ => passAt (takes_of rfl rfl rfl rfl) σ) (pa_cons pe_str (pa_cons (pv 5) (pa_cons (pe_glob (v := .int 3) rfl hMOST_CONDITIONS ⟨tMOST_CONDITIONS, rfl⟩) pa_nil)))))
      (pss_cons (ps_expr (pe_dx (K := K) dCkA rfl hr (fun σ => passAt (takes_of rfl rfl rfl rfl) σ) (pa_cons (pv 1) pa_nil)))
      (pss_cons (ps_for (passes_of rfl) rfl (pi_any (pv 5)) (pg_name (i := 6) scStatement__init__.nd rfl (.inl rfl)) (pss_one (ps_expr (pe_dx (K := K) dCkS rfl hr (fun σ => passAt (takes_of rfl rfl rfl rfl) σ) (pa_cons (pe_fld (pv 6) rfl) pa_nil)))))
      (pss_cons (ps_fld (pv 0) (pv 1) rfl)
      (pss_cons (ps_fld (pv 0) (pe_dn dLike hr (pa_cons (pv 2) pa_nil)) rfl)
      (pss_cons (ps_expr (pe_dx (K := K) dCkS rfl hr (fun σ => passAt (takes_of rfl rfl rfl rfl) σ) (pa_cons (pe_fld (pv 0) rfl) pa_nil)))
      (pss_cons (ps_expr (pe_dx (K := K) dCkN rfl hr (fun σ => passAt (takes_of rfl rfl rfl rfl) σ) (pa_cons pe_str (pa_cons (pv 3) (pa_cons (pe_un un_neg (pe_glob (v := .int 999) rfl hTOP_ONE ⟨tTOP_ONE, rfl⟩)) (pa_cons (pe_glob (v := .int 999) rfl hTOP_ONE ⟨tTOP_ONE, rfl⟩) pa_nil))))))
      (pss_cons (ps_fld (pv 0) (pv 3) rfl)
      (pss_cons (ps_fld (pv 0) (pe_callTy call_tuple_of (by rfl) T.tuple (by decide +kernel) (pa_cons (pv 4) pa_nil)) rfl)
      (pss_one (ps_fld (pv 0) (pe_callTy call_tuple_of (by rfl) T.tuple (by decide +kernel) (pa_cons (pv 5) pa_nil)) rfl)))))))))))), ?_⟩
    have k0 : ∀ e, RzK K p H E e → Rz K H E e := fun e z => z.rz (Keep.ofSame (Same.refl H))
    refine ⟨_, rfl, _, _, _, _, rfl, hlr, kk.or k0 fun kk => ?_⟩
    refine ⟨_, rfl, _, _, _, _, rfl, hlc, kk.or k0 fun kk => ?_⟩
    refine ⟨_, rfl, x, rfl, hx, kk.or k0 fun kk H1 s1 => ?_⟩
    have k1 : ∀ e, RzK K p H E e → Rz K H1 E e := fun e z => z.rz (Keep.ofSame s1)
    have hcc1 := hcc.same s1
    refine ⟨_, rfl, lc, rfl, ?_⟩
    refine for_any (xs := cs) (SqA.same hlc s1) (fun i σ H' => ∃ v6 : Option V, σ = [some (.ref p), some (.str x), some v, some (.int k), some (.ref lr), some (.ref lc), v6] ∧ H' = H1 ∧
      Out ((ckCs (cc.drop i)).or ((ckS a b c).or (ckN "constant" k (-999) 999))) (RzK K p H E) (∀ (q r g : Addr) (H' : Hp), H' p = some (.ins (CSt K) dx (stf x q k r g)) → StrAt K H' q a b c → SqT K H' r rs → SqT K H' g cs → Keep p H H' → Q .non H')) ⟨_, rfl, rfl, kk⟩ (fun i σ' H' ⟨_, _, e, _⟩ => e ▸ Same.refl H1) ?_ ?_
    · rintro i y σ H' hy ⟨v6, rfl, rfl, kk⟩
      obtain ⟨t, ht, ⟨r, C, dy, fs, q, rfl, hr1, cl, na, lk, hq⟩, hd⟩ := cnd_at hcc1 hy
      rw [hd] at kk
      have e : (ckCs (t :: cc.drop (i + 1))).or ((ckS a b c).or (ckN "constant" k (-999) 999)) = (ckS t.1 t.2.1 t.2.2).or ((ckCs (cc.drop (i + 1))).or ((ckS a b c).or (ckN "constant" k (-999) 999))) := by
        show ((ckS t.1 t.2.1 t.2.2).or (ckCs (cc.drop (i + 1)))).or _ = _
        rw [Option.or_assoc]
      rw [e] at kk
      refine normG (σ' := [some (.ref p), some (.str x), some v, some (.int k), some (.ref lr), some (.ref lc), some (.ref r)]) rfl ?_
      exact ⟨_, rfl, r, C, dy, _, _, rfl, hr1, cl, na, lk, q, _, _, _, rfl, hq, kk.or k1 fun kk => ⟨_, rfl, rfl, kk⟩⟩
    rintro σ H' ⟨v6, rfl, rfl, kk⟩
    have e0 : cc.drop cs.length = [] := by rw [hcc.1, List.drop_length]
    rw [e0] at kk
    rw [show (ckCs ([] : List (Int × Int × Int))).or ((ckS a b c).or (ckN "constant" k (-999) 999)) = (ckS a b c).or (ckN "constant" k (-999) 999) from rfl] at kk
    refine ⟨_, rfl, _, rfl, p, _, dx, _, rfl, s1 _ _ hp, T.clM, T.nMA, pl0, ?_⟩
    have n1 : (putF "array" (V.str x) []).lookup ("i" : Str) = none := nlk (by decide +kernel) rfl
    have hv1 := (hv.same s1).up (s1 _ _ hp) (keep_upd1 (o := .ins (CSt K) dx (putF "array" (.str x) []))) rfl
    have kp1 : Keep p H (upd H' p (.ins (CSt K) dx (putF "array" (.str x) []))) := keep_upd (Keep.ofSame s1)
    refine ⟨_, rfl, v, a, b, c, rfl, hv1, fun q H2 s2 hq => ?_⟩
    have hp2 := s2 _ _ (upd_same (H := H') (a := p))
    have kp2 : Keep p H H2 := keep_trans kp1 s2
    refine ⟨_, rfl, p, _, dx, _, rfl, hp2, T.clM, T.nMC, pl pl0, ?_⟩
    have hq1 := hq.up hp2 (keep_upd1 (o := .ins (CSt K) dx (putF "cell" (.ref q) (putF "array" (.str x) [])))) n1
    have kp3 : Keep p H (upd H2 p (.ins (CSt K) dx (putF "cell" (.ref q) (putF "array" (.str x) [])))) := keep_upd kp2
    have lkc : (putF "cell" (V.ref q) (putF "array" (V.str x) [])).lookup ("cell" : Str) = some (.ref q) := by rw [lookup_putF, if_pos rfl]
    refine ⟨_, rfl, p, _, dx, _, _, rfl, upd_same, T.clM, T.nMC, lkc, q, a, b, c, rfl, hq1, kk.or (fun e z => z.rz kp3) fun kk => ?_⟩
    refine ⟨_, rfl, _, rfl, _, _, _, _, rfl, Out.end_ kk (fun e z => z.rz kp3) fun kk => ?_⟩
    refine ⟨_, rfl, _, rfl, p, _, dx, _, rfl, upd_same, T.clM, T.nMK, pl (pl pl0), ?_⟩
    have n2 : (putF "cell" (V.ref q) (putF "array" (V.str x) [])).lookup ("i" : Str) = none := nlk (by decide +kernel) n1
    have hq2 := hq1.up upd_same (keep_upd1 (o := .ins (CSt K) dx (putF "constant" (.int k) (putF "cell" (.ref q) (putF "array" (.str x) []))))) n2
    have n3 : (putF "constant" (V.int k) (putF "cell" (V.ref q) (putF "array" (V.str x) []))).lookup ("i" : Str) = none := nlk (by decide +kernel) n2
    obtain ⟨H3, eH3⟩ : ∃ L, L = upd (upd H2 p (.ins (CSt K) dx (putF "cell" (.ref q) (putF "array" (.str x) [])))) p (.ins (CSt K) dx (putF "constant" (.int k) (putF "cell" (.ref q) (putF "array" (.str x) [])))) := ⟨_, rfl⟩
    have kp4 : Keep p H H3 := by rw [eH3]; exact keep_upd kp3
    have hp3 : H3 p = some (.ins (CSt K) dx (putF "constant" (.int k) (putF "cell" (.ref q) (putF "array" (.str x) [])))) := by rw [eH3]; exact upd_same
    rw [← eH3] at hq2 ⊢
    have tail : ∀ (r : Addr) (H4 : Hp), Same H3 H4 → SqT K H4 r rs → H4 p = some (.ins (CSt K) dx (putF "constant" (.int k) (putF "cell" (.ref q) (putF "array" (.str x) [])))) ∧
        SqA K (upd H4 p (.ins (CSt K) dx (putF "reads" (.ref r) (putF "constant" (.int k) (putF "cell" (.ref q) (putF "array" (.str x) [])))))) lc cs ∧
        ∀ (g : Addr) (H6 : Hp), Same (upd H4 p (.ins (CSt K) dx (putF "reads" (.ref r) (putF "constant" (.int k) (putF "cell" (.ref q) (putF "array" (.str x) [])))))) H6 → SqT K H6 g cs →
          H6 p = some (.ins (CSt K) dx (putF "reads" (.ref r) (putF "constant" (.int k) (putF "cell" (.ref q) (putF "array" (.str x) []))))) ∧ Q .non (upd H6 p (.ins (CSt K) dx (stf x q k r g))) := by
      intro r H4 s4 hr4
      have hp4 := s4 _ _ hp3
      have k45 : Keep p H4 (upd H4 p (.ins (CSt K) dx (putF "reads" (.ref r) (putF "constant" (.int k) (putF "cell" (.ref q) (putF "array" (.str x) [])))))) := keep_upd1
      have kp5 := keep_trans2 (keep_trans kp4 s4) k45
      refine ⟨hp4, SqA.up hlc hp kp5, fun g H6 s6 hg6 => ?_⟩
      have hp6 := s6 _ _ upd_same
      have k67 : Keep p H6 (upd H6 p (.ins (CSt K) dx (stf x q k r g))) := keep_upd1
      have hr5 := SqT.up hr4 hp4 k45
      have hq5 := (hq2.same s4).up hp4 k45 n3
      exact ⟨hp6, kk q r g _ upd_same ((hq5.same s6).up hp6 k67 (nlk (by decide +kernel) n3)) (SqT.up (SqT.same hr5 s6) hp6 k67) (SqT.up hg6 hp6 k67) (keep_trans2 (keep_trans kp5 s6) k67)⟩
    rcases SqA.up hlr hp kp4 with hL | hL
    · refine ⟨_, rfl, lr, rs, rfl, .inl ⟨hL, fun r hr => ?_⟩⟩
      obtain ⟨t1, t2, t3⟩ := tail r _ (Same.new (.tup rs) (Same.refl H3) hr) (SqT.of upd_same)
      refine ⟨_, rfl, p, _, dx, _, rfl, t1, T.clM, T.nMR, pl (pl (pl pl0)), ?_⟩
      rcases t2 with hC | hC
      · refine ⟨_, rfl, lc, cs, rfl, .inl ⟨hC, fun g hg => ?_⟩⟩
        obtain ⟨t4, t5⟩ := t3 g _ (Same.new (.tup cs) (Same.refl _) hg) (SqT.of upd_same)
        exact ⟨_, rfl, p, _, dx, _, rfl, t4, T.clM, T.nMG, pl (pl (pl (pl pl0))), t5⟩
      · obtain ⟨t4, t5⟩ := t3 lc _ (Same.refl _) hC
        exact ⟨_, rfl, lc, cs, rfl, .inr ⟨hC, _, rfl, p, _, dx, _, rfl, t4, T.clM, T.nMG, pl (pl (pl (pl pl0))), t5⟩⟩
    · obtain ⟨t1, t2, t3⟩ := tail lr _ (Same.refl H3) hL
      refine ⟨_, rfl, lr, rs, rfl, .inr ⟨hL, ?_⟩⟩
      refine ⟨_, rfl, p, _, dx, _, rfl, t1, T.clM, T.nMR, pl (pl (pl pl0)), ?_⟩
      rcases t2 with hC | hC
      · refine ⟨_, rfl, lc, cs, rfl, .inl ⟨hC, fun g hg => ?_⟩⟩
        obtain ⟨t4, t5⟩ := t3 g _ (Same.new (.tup cs) (Same.refl _) hg) (SqT.of upd_same)
        exact ⟨_, rfl, p, _, dx, _, rfl, t4, T.clM, T.nMG, pl (pl (pl (pl pl0))), t5⟩
      · obtain ⟨t4, t5⟩ := t3 lc _ (Same.refl _) hC
        exact ⟨_, rfl, lc, cs, rfl, .inr ⟨hC, _, rfl, p, _, dx, _, rfl, t4, T.clM, T.nMG, pl (pl (pl (pl pl0))), t5⟩⟩
end
def lpf (lo hi st : Addr) (S : Int) (dn : Bool) : List (Str × V) := putF "down" (.bl dn) (putF "step" (.int S) (putF "statements" (.ref st) (putF "high" (.ref hi) (putF "low" (.ref lo) []))))
theorem n_lh : ¬ (("low" : Str) = "high") := by decide +kernel
theorem n_lt : ¬ (("low" : Str) = "statements") := by decide +kernel
theorem n_ls : ¬ (("low" : Str) = "step") := by decide +kernel
theorem n_ld : ¬ (("low" : Str) = "down") := by decide +kernel
theorem n_ht : ¬ (("high" : Str) = "statements") := by decide +kernel
theorem n_hs : ¬ (("high" : Str) = "step") := by decide +kernel
theorem n_hd : ¬ (("high" : Str) = "down") := by decide +kernel
theorem n_ts : ¬ (("statements" : Str) = "step") := by decide +kernel
theorem n_td : ¬ (("statements" : Str) = "down") := by decide +kernel
theorem n_sd : ¬ (("step" : Str) = "down") := by decide +kernel
theorem lp_lo (lo hi st : Addr) (S : Int) (dn : Bool) : (lpf lo hi st S dn).lookup ("low" : Str) = some (.ref lo) := by
  unfold lpf
  rw [lookup_putF, if_neg n_ld, lookup_putF, if_neg n_ls, lookup_putF, if_neg n_lt, lookup_putF, if_neg n_lh, lookup_putF, if_pos rfl]
theorem lp_hi (lo hi st : Addr) (S : Int) (dn : Bool) : (lpf lo hi st S dn).lookup ("high" : Str) = some (.ref hi) := by
  unfold lpf
  rw [lookup_putF, if_neg n_hd, lookup_putF, if_neg n_hs, lookup_putF, if_neg n_ht, lookup_putF, if_pos rfl]
theorem lp_tt (lo hi st : Addr) (S : Int) (dn : Bool) : (lpf lo hi st S dn).lookup ("statements" : Str) = some (.ref st) := by
  unfold lpf
  rw [lookup_putF, if_neg n_td, lookup_putF, if_neg n_ts, lookup_putF, if_pos rfl]
theorem lp_st (lo hi st : Addr) (S : Int) (dn : Bool) : (lpf lo hi st S dn).lookup ("step" : Str) = some (.int S) := by
  unfold lpf
  rw [lookup_putF, if_neg n_sd, lookup_putF, if_pos rfl]
theorem lp_dn (lo hi st : Addr) (S : Int) (dn : Bool) : (lpf lo hi st S dn).lookup ("down" : Str) = some (.bl dn) := by
  unfold lpf
  rw [lookup_putF, if_pos rfl]
/-- a place's four numbers -/
abbrev P4 : Type := Int × Int × Int × Int
section
variable (K : PySem.W.Frag)
def Pl4 (H : Hp) (q : Addr) (t : P4) : Prop := PlcAt K H q t.1 t.2.1 t.2.2.1 t.2.2.2
def LpAt (H : Hp) (p : Addr) (t u : P4) (S : Int) (dn : Bool) (xs : List V) : Prop := ∃ dx lo hi st, H p = some (.ins (CL K) dx (lpf lo hi st S dn)) ∧ Pl4 K H lo t ∧ Pl4 K H hi u ∧ SqT K H st xs
def ckLp (m S : Int) (t u : P4) : Option Er := ckLoop m S t.1 t.2.1 t.2.2.1 t.2.2.2 u.1 u.2.1 u.2.2.1 u.2.2.2
def spLpI : Sp := fun vs H Q E => ∃ (p dx : Addr) (v1 v2 : V) (l : Addr) (xs : List V) (t u : P4) (S : Int) (dn : Bool), vs = [.ref p, v1, v2, .ref l, .int S, .bl dn] ∧ H p = some (.ins (CL K) dx []) ∧ PlV K H v1 t.1 t.2.1 t.2.2.1 t.2.2.2 ∧ PlV K H v2 u.1 u.2.1 u.2.2.1 u.2.2.2 ∧ SqA K H l xs ∧
  Out (ckLp xs.length S t u) (RzK K p H E) (∀ lo hi st H', H' p = some (.ins (CL K) dx (lpf lo hi st S dn)) → Pl4 K H' lo t → Pl4 K H' hi u → SqT K H' st xs → Keep p H H' → Q .non H')
end
theorem LpAt.same {K : PySem.W.Frag} {H H' : Hp} {p : Addr} {t u : P4} {S : Int} {dn : Bool} {xs : List V} (h : LpAt K H p t u S dn xs) (s : Same H H') : LpAt K H' p t u S dn xs := by
  obtain ⟨dx, lo, hi, st, h1, h2, h3, h4⟩ := h
  exact ⟨dx, lo, hi, st, s _ _ h1, PlcAt.same h2 s, PlcAt.same h3 s, SqT.same h4 s⟩
section
variable {P : Program} {w : World} {K : PySem.W.Frag} {mg : Str → Option Value} {base : Heap}
theorem scLoop__init__ : FnScope ["self", "low", "high", "statements", "step", "down"] ["self", "low", "high", "statements", "step", "down"] (defScope iLoop__init__) := ⟨rfl, rfl, rfl, by decide +kernel, rfl, by decide +kernel, by decide +kernel⟩
theorem ok_LpI {fd : FuncData} {kws : List (Str × V)} (F : FunD K "__init__" "Loop.__init__" (defArgs iLoop__init__) (defBody iLoop__init__) (defScope iLoop__init__) [] kws (He.ma K (CL K) "__init__") fd) (T : PrTx K mg) (MB : Mx P w K mg base "BadNumber" ["self", "what", "number"] ["what", "number"])
    (dCkM : Dx P w K mg base 3 "check_many" ["what", "things", "most"] (spCkM K)) (dCkN : Dx P w K mg base 3 "check_number" ["what", "number", "low", "high"] (spCkN K)) (dPLike : Dn P w K mg base 6 "place_like" ["value"] (spPLike K)) (dCkR : Dx P w K mg base 4 "check_range_place" ["place"] (spCkR K)) :
    FnOk P w K mg base (L2.CX P w) 7 (He.ma K (CL K) "__init__") fd ["self", "low", "high", "statements", "step", "down"] (spLpI K) := by
  refine F.ok scLoop__init__ (fun vs H Q E h => ?_) (fun cdv A outer s H vs Q E hr h => ?_)
  · obtain ⟨p, dx, v1, v2, l, xs, t, u, S, dn, rfl, _⟩ := h
    rfl
  · obtain ⟨p, dx, v1, v2, l, xs, ⟨a, c, d, e⟩, ⟨a2, c2, d2, e2⟩, S, dn, rfl, hp, hv1, hv2, hl, kk⟩ := h
    obtain ⟨tTOP_STEP, hTOP_STEP⟩ := T.con ("TOP_STEP", 16) (by simp)
    obtain ⟨tMOST_STATEMENTS, hMOST_STATEMENTS⟩ := T.con ("MOST_STATEMENTS", 16) (by simp)
    refine ⟨_, (pss_cons (ps_expr (pe_dx (K := K) dCkM rfl hr (fun σ => passAt (takes_of rfl rfl rfl rfl) σ) (pa_cons pe_str (pa_cons (pv 3) (pa_cons (pe_glob (v := .int 16) rfl hMOST_STATEMENTS ⟨tMOST_STATEMENTS, rfl⟩) pa_nil)))))
      (pss_cons (ps_expr (pe_dx (K := K) dCkN rfl hr (fun σ => passAt (takes_of rfl rfl rfl rfl) σ) (pa_cons pe_str (pa_cons (pv 4) (pa_cons pe_int (pa_cons (pe_glob (v := .int 16) rfl hTOP_STEP ⟨tTOP_STEP, rfl⟩) pa_nil))))))
      (pss_cons (ps_fld (pv 0) (pe_dn dPLike hr (pa_cons (pv 1) pa_nil)) rfl)
      (pss_cons (ps_fld (pv 0) (pe_dn dPLike hr (pa_cons (pv 2) pa_nil)) rfl)
      (pss_cons (ps_expr (pe_dx (K := K) dCkR rfl hr (fun σ => passAt (takes_of rfl rfl rfl rfl) σ) (pa_cons (pe_fld (pv 0) rfl) pa_nil)))
      (pss_cons (ps_expr (pe_dx (K := K) dCkR rfl hr (fun σ => passAt (takes_of rfl rfl rfl rfl) σ) (pa_cons (pe_fld (pv 0) rfl) pa_nil)))
      (pss_cons (ps_if (PW.pt (pw_and (pt_cmpR op_gt (pv 4) pe_int (nomark _)) (pw_and1 (pt_cmpR op_gt (pe_fld (pe_fld (pv 0) rfl) rfl) pe_int (nomark _))))) (pss_one (ps_raise rfl (takes_of rfl rfl rfl rfl) (pmk_err MB hr (pa_cons pe_str (pa_cons (pv 4) pa_nil))))) pss_nil)
      (pss_cons (ps_fld (pv 0) (pe_callTy call_tuple_of (by rfl) T.tuple (by decide +kernel) (pa_cons (pv 3) pa_nil)) rfl)
      (pss_cons (ps_fld (pv 0) (pv 4) rfl)
      (pss_one (ps_fld (pv 0) (pv 5) rfl))))))))))), ?_⟩
    have k0 : ∀ e, RzK K p H E e → Rz K H E e := fun e z => z.rz (Keep.ofSame (Same.refl H))
    refine ⟨_, rfl, _, _, _, _, rfl, hl, kk.or k0 fun kk => ?_⟩
    refine ⟨_, rfl, _, _, _, _, rfl, kk.or k0 fun kk => ?_⟩
    refine ⟨_, rfl, v1, _, _, _, _, rfl, hv1, fun lo H1 s1 hlo => ?_⟩
    have hp1 := s1 _ _ hp
    refine ⟨_, rfl, p, _, dx, _, rfl, hp1, T.clL, T.nLo, pl0, ?_⟩
    obtain ⟨H2, eH2⟩ : ∃ L, L = upd H1 p (.ins (CL K) dx (putF "low" (.ref lo) [])) := ⟨_, rfl⟩
    have k12 : Keep p H1 H2 := by rw [eH2]; exact keep_upd1
    have hp2 : H2 p = some (.ins (CL K) dx (putF "low" (.ref lo) [])) := by rw [eH2]; exact upd_same
    rw [← eH2]
    have n1 : (putF "low" (V.ref lo) []).lookup ("straight" : Str) = none ∧ (putF "low" (V.ref lo) []).lookup ("i" : Str) = none := ⟨nlk (by decide +kernel) rfl, nlk (by decide +kernel) rfl⟩
    refine ⟨_, rfl, v2, _, _, _, _, rfl, (hv2.same s1).up hp1 k12 rfl rfl, fun hi H3 s3 hhi => ?_⟩
    have hp3 := s3 _ _ hp2
    have hlo3 := (hlo.up hp1 k12 rfl rfl).same s3
    refine ⟨_, rfl, p, _, dx, _, rfl, hp3, T.clL, T.nHi, pl pl0, ?_⟩
    obtain ⟨H4, eH4⟩ : ∃ L, L = upd H3 p (.ins (CL K) dx (putF "high" (.ref hi) (putF "low" (.ref lo) []))) := ⟨_, rfl⟩
    have k34 : Keep p H3 H4 := by rw [eH4]; exact keep_upd1
    have hp4 : H4 p = some (.ins (CL K) dx (putF "high" (.ref hi) (putF "low" (.ref lo) []))) := by rw [eH4]; exact upd_same
    rw [← eH4]
    have hlo4 := hlo3.up hp3 k34 n1.1 n1.2
    have hhi4 := hhi.up hp3 k34 n1.1 n1.2
    have kp4 : Keep p H H4 := keep_trans2 (keep_trans (keep_trans2 (Keep.ofSame s1) k12) s3) k34
    have k4 : ∀ e, RzK K p H E e → Rz K H4 E e := fun e z => z.rz kp4
    have ll : (putF "high" (V.ref hi) (putF "low" (V.ref lo) [])).lookup ("low" : Str) = some (.ref lo) := by
      rw [lookup_putF, if_neg n_lh, lookup_putF, if_pos rfl]
    have lh : (putF "high" (V.ref hi) (putF "low" (V.ref lo) [])).lookup ("high" : Str) = some (.ref hi) := by
      rw [lookup_putF, if_pos rfl]
    refine ⟨_, rfl, p, _, dx, _, _, rfl, hp4, T.clL, T.nLo, ll, lo, _, _, _, _, rfl, hlo4, kk.or k4 fun kk => ?_⟩
    refine ⟨_, rfl, p, _, dx, _, _, rfl, hp4, T.clL, T.nHi, lh, hi, _, _, _, _, rfl, hhi4, kk.or k4 fun kk => ?_⟩
    obtain ⟨dq, rq, hq1, _⟩ := id hlo4
    have n2 : (putF "high" (V.ref hi) (putF "low" (V.ref lo) [])).lookup ("straight" : Str) = none ∧ (putF "high" (V.ref hi) (putF "low" (V.ref lo) [])).lookup ("i" : Str) = none := ⟨nlk (by decide +kernel) n1.1, nlk (by decide +kernel) n1.2⟩
    have fin : ∀ (h : ¬ (1 < S ∧ 1 < e)) (t : Addr) (H5 : Hp), Same H4 H5 → SqT K H5 t xs → H5 p = some (.ins (CL K) dx (putF "high" (.ref hi) (putF "low" (.ref lo) []))) ∧ Q .non (upd (upd (upd H5 p (.ins (CL K) dx (putF "statements" (.ref t) (putF "high" (.ref hi) (putF "low" (.ref lo) []))))) p (.ins (CL K) dx (putF "step" (.int S) (putF "statements" (.ref t) (putF "high" (.ref hi) (putF "low" (.ref lo) [])))))) p (.ins (CL K) dx (lpf lo hi t S dn))) := by
      intro h t H5 s5 ht
      have kk2 := kk.2 (if_neg h)
      have hp5 := s5 _ _ hp4
      have kp5 : Keep p H5 (upd (upd (upd H5 p (.ins (CL K) dx (putF "statements" (.ref t) (putF "high" (.ref hi) (putF "low" (.ref lo) []))))) p (.ins (CL K) dx (putF "step" (.int S) (putF "statements" (.ref t) (putF "high" (.ref hi) (putF "low" (.ref lo) [])))))) p (.ins (CL K) dx (lpf lo hi t S dn))) := keep_upd (keep_upd keep_upd1)
      exact ⟨hp5, kk2 lo hi t _ upd_same ((hlo4.same s5).up hp5 kp5 n2.1 n2.2) ((hhi4.same s5).up hp5 kp5 n2.1 n2.2) (SqT.up ht hp5 kp5) (keep_trans2 (keep_trans kp4 s5) kp5)⟩
    refine ⟨_, rfl, _, _, rfl, rfl, _, rfl, ?_⟩
    by_cases hS : 1 < S
    · rw [decide_eq_true hS]
      refine iteT ⟨_, rfl, p, _, dx, _, _, rfl, hp4, T.clL, T.nLo, ll, lo, _, dq, _, _, rfl, hq1, T.plc.clP, T.plc.nD, pf_d _ _, _, _, rfl, rfl, _, rfl, ?_⟩
      by_cases he : 1 < e
      · rw [decide_eq_true he]
        have bad := k4 _ (kk.1 _ (if_pos ⟨hS, he⟩))
        exact iteT ⟨_, rfl, err_go (K := K) (x := "BadNumber") (fs := ["what", "number"]) (by show 2 ≤ 1000; decide) rfl fun d H' s hd => bad d H' s hd⟩
      · rw [decide_eq_false he]
        refine iteF ?_
        rcases SqA.up hl hp kp4 with hL | hL
        · refine ⟨_, rfl, l, xs, rfl, .inl ⟨hL, fun t ht => ?_⟩⟩
          obtain ⟨t1, t2⟩ := fin (fun z => he z.2) t _ (Same.new (.tup xs) (Same.refl H4) ht) (SqT.of upd_same)
          refine ⟨_, rfl, p, _, dx, _, rfl, t1, T.clL, T.nSt, pl (pl pl0), ?_⟩
          refine ⟨_, rfl, _, rfl, p, _, dx, _, rfl, upd_same, T.clL, T.nSp, pl (pl (pl pl0)), ?_⟩
          exact ⟨_, rfl, _, rfl, p, _, dx, _, rfl, upd_same, T.clL, T.nDn, pl (pl (pl (pl pl0))), t2⟩
        · obtain ⟨t1, t2⟩ := fin (fun z => he z.2) l _ (Same.refl H4) hL
          refine ⟨_, rfl, l, xs, rfl, .inr ⟨hL, ?_⟩⟩
          refine ⟨_, rfl, p, _, dx, _, rfl, t1, T.clL, T.nSt, pl (pl pl0), ?_⟩
          refine ⟨_, rfl, _, rfl, p, _, dx, _, rfl, upd_same, T.clL, T.nSp, pl (pl (pl pl0)), ?_⟩
          exact ⟨_, rfl, _, rfl, p, _, dx, _, rfl, upd_same, T.clL, T.nDn, pl (pl (pl (pl pl0))), t2⟩
    · rw [decide_eq_false hS]
      refine iteF ?_
      rcases SqA.up hl hp kp4 with hL | hL
      · refine ⟨_, rfl, l, xs, rfl, .inl ⟨hL, fun t ht => ?_⟩⟩
        obtain ⟨t1, t2⟩ := fin (fun z => hS z.1) t _ (Same.new (.tup xs) (Same.refl H4) ht) (SqT.of upd_same)
        refine ⟨_, rfl, p, _, dx, _, rfl, t1, T.clL, T.nSt, pl (pl pl0), ?_⟩
        refine ⟨_, rfl, _, rfl, p, _, dx, _, rfl, upd_same, T.clL, T.nSp, pl (pl (pl pl0)), ?_⟩
        exact ⟨_, rfl, _, rfl, p, _, dx, _, rfl, upd_same, T.clL, T.nDn, pl (pl (pl (pl pl0))), t2⟩
      · obtain ⟨t1, t2⟩ := fin (fun z => hS z.1) l _ (Same.refl H4) hL
        refine ⟨_, rfl, l, xs, rfl, .inr ⟨hL, ?_⟩⟩
        refine ⟨_, rfl, p, _, dx, _, rfl, t1, T.clL, T.nSt, pl (pl pl0), ?_⟩
        refine ⟨_, rfl, _, rfl, p, _, dx, _, rfl, upd_same, T.clL, T.nSp, pl (pl (pl pl0)), ?_⟩
        exact ⟨_, rfl, _, rfl, p, _, dx, _, rfl, upd_same, T.clL, T.nDn, pl (pl (pl (pl pl0))), t2⟩
end
end K35
set_option maxHeartbeats 4000000
namespace K35
open PySem PySem.Spec PyProof.Rows L2 Z
section
variable (K : PySem.W.Frag)
def RdN (H : Hp) (v : V) (y : Str) : Prop := ∃ p dx fs, v = .ref p ∧ H p = some (.ins (CRd K) dx fs) ∧ fs.lookup ("array" : Str) = some (.str y)
def RdNs (H : Hp) (vs : List V) (ys : List Str) : Prop := vs.length = ys.length ∧ ∀ (i : Nat) (v : V) (y : Str), vs[i]? = some v → ys[i]? = some y → RdN K H v y
def StN (H : Hp) (v : V) (m : List Str) : Prop := ∃ p dx fs x r rs ys, v = .ref p ∧ H p = some (.ins (CSt K) dx fs) ∧ fs.lookup ("array" : Str) = some (.str x) ∧ fs.lookup ("reads" : Str) = some (.ref r) ∧ SqT K H r rs ∧ RdNs K H rs ys ∧ m = x :: ys
def StNs (H : Hp) (vs : List V) (ms : List (List Str)) : Prop := vs.length = ms.length ∧ ∀ (i : Nat) (v : V) (m : List Str), vs[i]? = some v → ms[i]? = some m → StN K H v m
def LpN (H : Hp) (v : V) (m : List Str) : Prop := ∃ p dx fs st xs ms, v = .ref p ∧ H p = some (.ins (CL K) dx fs) ∧ fs.lookup ("statements" : Str) = some (.ref st) ∧ SqT K H st xs ∧ StNs K H xs ms ∧ m = ms.flatten
def LpNs (H : Hp) (vs : List V) (ms : List (List Str)) : Prop := vs.length = ms.length ∧ ∀ (i : Nat) (v : V) (m : List Str), vs[i]? = some v → ms[i]? = some m → LpN K H v m
def spArr : Sp := fun vs H Q _ => ∃ (l : Addr) (xs : List V) (ms : List (List Str)), vs = [.ref l] ∧ SqT K H l xs ∧ LpNs K H xs ms ∧ ms.flatten.length ≤ 4000 ∧
  ∀ t ys H', Same H H' → ys.Nodup → (∀ x, x ∈ ys ↔ x ∈ ms.flatten) → sortedS ys = true → SqT K H' t (ys.map V.str) → Q (.ref t) H'
def prf2 (l a : Addr) : List (Str × V) := putF "arrays" (.ref a) (putF "loops" (.ref l) [])
def prf (l a d : Addr) : List (Str × V) := putF "known" (.ref d) (prf2 l a)
def spPrI : Sp := fun vs H Q E => ∃ (p dx l : Addr) (xs : List V) (ms : List (List Str)), vs = [.ref p, .ref l] ∧ H p = some (.ins (CPr K) dx []) ∧ SqA K H l xs ∧ LpNs K H xs ms ∧ ms.flatten.length ≤ 4000 ∧
  Out (ckM "loops" xs.length 6) (RzK K p H E) (∀ (lt at_ dt : Addr) (ys : List Str) (H' : Hp), H' p = some (.ins (CPr K) dx (prf lt at_ dt)) → SqT K H' lt xs → SqT K H' at_ (ys.map V.str) → ys.Nodup → (∀ x, x ∈ ys ↔ x ∈ ms.flatten) → sortedS ys = true → Keep p H H' → Q .non H')
end
theorem zip_at {α : Type} {vs : List V} {ms : List α} (h : vs.length = ms.length) {i : Nat} {v : V} (hv : vs[i]? = some v) : ∃ m, ms[i]? = some m := by
  have hi : i < vs.length := (List.getElem?_eq_some_iff.mp hv).1
  exact ⟨ms[i]'(h ▸ hi), List.getElem?_eq_getElem (h ▸ hi)⟩
theorem flat_take {ms : List (List Str)} {i : Nat} {m : List Str} (h : ms[i]? = some m) : (ms.take (i + 1)).flatten = (ms.take i).flatten ++ m := by
  rw [List.take_add_one, h]
  simp
theorem flat_le {ms : List (List Str)} {i : Nat} : (ms.take i).flatten.length ≤ ms.flatten.length := by
  have e : ms.flatten = (ms.take i).flatten ++ (ms.drop i).flatten := by rw [← List.flatten_append, List.take_append_drop]
  rw [e, List.length_append]
  omega
section
variable {K : PySem.W.Frag} {H H' : Hp}
theorem RdN.same {v : V} {y : Str} (h : RdN K H v y) (s : Same H H') : RdN K H' v y := by
  obtain ⟨p, dx, fs, e, h1, h2⟩ := h
  exact ⟨p, dx, fs, e, s _ _ h1, h2⟩
theorem RdNs.same {vs : List V} {ys : List Str} (h : RdNs K H vs ys) (s : Same H H') : RdNs K H' vs ys := ⟨h.1, fun i v y a b => (h.2 i v y a b).same s⟩
theorem StN.same {v : V} {m : List Str} (h : StN K H v m) (s : Same H H') : StN K H' v m := by
  obtain ⟨p, dx, fs, x, r, rs, ys, e, h1, h2, h3, h4, h5, h6⟩ := h
  exact ⟨p, dx, fs, x, r, rs, ys, e, s _ _ h1, h2, h3, SqT.same h4 s, h5.same s, h6⟩
theorem StNs.same {vs : List V} {ms : List (List Str)} (h : StNs K H vs ms) (s : Same H H') : StNs K H' vs ms := ⟨h.1, fun i v y a b => (h.2 i v y a b).same s⟩
theorem LpN.same {v : V} {m : List Str} (h : LpN K H v m) (s : Same H H') : LpN K H' v m := by
  obtain ⟨p, dx, fs, st, xs, ms, e, h1, h2, h3, h4, h5⟩ := h
  exact ⟨p, dx, fs, st, xs, ms, e, s _ _ h1, h2, SqT.same h3 s, h4.same s, h5⟩
theorem LpNs.same {vs : List V} {ms : List (List Str)} (h : LpNs K H vs ms) (s : Same H H') : LpNs K H' vs ms := ⟨h.1, fun i v y a b => (h.2 i v y a b).same s⟩
variable {p C dx : Addr} {fs : List (Str × V)}
theorem LpNs.up {vs : List V} {ms : List (List Str)} (h : LpNs K H vs ms) (hp : H p = some (.ins C dx fs)) (k : Keep p H H') (n1 : fs.lookup ("statements" : Str) = none) (n2 : fs.lookup ("array" : Str) = none) : LpNs K H' vs ms := by
  have ne : ∀ {q D dy : Addr} {gs : List (Str × V)} {f : Str} {v : V}, H q = some (.ins D dy gs) → gs.lookup f = some v → fs.lookup f = none → q ≠ p := fun h1 h2 h3 z => by
    subst z
    rw [ins_inj hp h1, h2] at h3
    cases h3
  refine ⟨h.1, fun i v m a b => ?_⟩
  obtain ⟨q, dy, gs, st, xs, m2, e, h1, h2, h3, h4, h5⟩ := h.2 i v m a b
  refine ⟨q, dy, gs, st, xs, m2, e, k _ _ (ne h1 h2 n1) h1, h2, SqT.up h3 hp k, ⟨h4.1, fun i v m a b => ?_⟩, h5⟩
  obtain ⟨q, dy, gs, x, r, rs, ys, e, h1, h2, h3, h4, h5, h6⟩ := h4.2 i v m a b
  refine ⟨q, dy, gs, x, r, rs, ys, e, k _ _ (ne h1 h2 n2) h1, h2, h3, SqT.up h4 hp k, ⟨h5.1, fun i v y a b => ?_⟩, h6⟩
  obtain ⟨q, dy, gs, e, h1, h2⟩ := h5.2 i v y a b
  exact ⟨q, dy, gs, e, k _ _ (ne h1 h2 n2) h1, h2⟩
end
section
variable {P : Program} {w : World} {K : PySem.W.Frag} {mg : Str → Option Value} {base : Heap}
theorem sc_arrays_in : FnScope ["loops", "names", "loop", "statement", "read"] ["loops"] (defScope s_arrays_in) := ⟨rfl, rfl, rfl, by decide +kernel, rfl, by decide +kernel, by decide +kernel⟩
theorem ok_arr {f : Addr} {fd : FuncData} (F : FnP K "arrays_in" s_arrays_in f fd) (T : PrTx K mg) : FnOk P w K mg base CX0 1 f fd ["loops"] (spArr K) := by
  refine F.ok sc_arrays_in (fun vs H Q E h => ?_) (fun cdv A outer s H vs Q E hr h => ?_)
  · obtain ⟨l, xs, ms, rfl, _⟩ := h
    rfl
  · obtain ⟨l, xs, ms, rfl, hl, hms, hfew, k⟩ := h
    refine ⟨_, PSs.nox (pss_cons (ps_set (i := 1) sc_arrays_in.nd rfl (Or.inl rfl) (pe_lst pa_nil))
      (pss_cons (ps_for PassesOwn.never rfl (pi_tup (pv 0)) (pg_name (i := 2) sc_arrays_in.nd rfl (.inl rfl)) (pss_one (ps_for PassesOwn.never rfl (pi_tup (pe_fld (pv 2) rfl)) (pg_name (i := 3) sc_arrays_in.nd rfl (.inl rfl)) (pss_cons (ps_expr (pe_bm PySem.F.plainAttrs_list PySem.F.slot_list_append PySem.F.type_list_append mt_append (pv 1) (pa_cons (pe_fld (pv 3) rfl) pa_nil)))
      (pss_one (ps_expr (pe_bm PySem.F.plainAttrs_list PySem.F.slot_list_extend PySem.F.type_list_extend mt_extend (pv 1) (pa_cons (pe_lc (own := [("read", 4)]) (g := gName 4) (tt := tYes) rfl sc_arrays_in.nd (pi_tup (pe_fld (pv 3) rfl)) (blkOk_by (N := ["loops", "names", "loop", "statement", "read"]) (sc := defScope s_arrays_in) (by decide +kernel)) (fun _ _ _ _ _ => (pg_name (i := 4) sc_arrays_in.nd rfl (.inl rfl))) (fun _ _ _ _ _ => pts_nil) (fun _ _ _ _ _ => (pe_fldK (K := K) rfl (pv 4)))) pa_nil))))))))
      (pss_one (ps_ret (pe_callTy call_tuple_of (by rfl) T.tuple (by decide +kernel) (pa_cons (pe_callB (cr_sortedTx rfl) (by rfl) T.sorted (by decide +kernel) (pa_cons (pe_callTy (cr_setTx rfl) (by rfl) T.set (by decide +kernel) (pa_cons (pv 1) pa_nil)) pa_nil)) pa_nil)))))), ?_⟩
    refine ⟨Nat.zero_le _, fun N hN => ?_⟩
    have sN : Same H (upd H N (.lst [])) := Same.new _ (Same.refl H) hN
    have szl : 5000 ≤ sizeLine := by show 5000 ≤ sizeLine; decide
    have nN : ∀ {Hc : Hp}, (∀ b o, H b = some o → Hc b = some o) → ∀ o', ∀ b o, H b = some o → (upd Hc N o') b = some o := fun hk o' b o e => by
      rw [upd_ne (ne_of_none e hN)]
      exact hk b o e
    refine ⟨_, rfl, l, rfl, ⟨_, SqT.same hl sN⟩, for_tup (xs := xs) (fun i σ Hc => ∃ v2 v3 : Option V, σ = [some (.ref l), some (.ref N), v2, v3, none] ∧ Hc N = some (.lst ((ms.take i).flatten.map V.str)) ∧ ∀ b o, H b = some o → Hc b = some o) ⟨_, _, rfl, upd_same, sN⟩ (fun i σ Hc _ ⟨_, _, _, _, s⟩ => SqT.same hl s) ?_ ?_⟩
    · rintro i v σ Hc hv ⟨v2, v3, rfl, hN1, s1⟩
      obtain ⟨m, hm⟩ := zip_at hms.1 hv
      obtain ⟨p, dx, fs, st, ss, m2, rfl, h1, h2, h3, h4, h5⟩ := (hms.2 i v m hv hm).same s1
      refine normG (σ' := [some (.ref l), some (.ref N), some (.ref p), v3, none]) rfl ?_
      refine ⟨_, rfl, p, _, dx, _, _, rfl, h1, T.clL, T.nSt, h2, st, rfl, ⟨_, h3⟩, ?_⟩
      have tot : (ms.take i).flatten.length + m.length ≤ 4000 := by
        have e := flat_take hm
        have q := flat_le (ms := ms) (i := i + 1)
        rw [e, List.length_append] at q
        omega
      refine for_tup (xs := ss) (fun j σ Hd => ∃ v3 : Option V, σ = [some (.ref l), some (.ref N), some (.ref p), v3, none] ∧ Hd N = some (.lst (((ms.take i).flatten ++ (m2.take j).flatten).map V.str)) ∧ (∀ b o, H b = some o → Hd b = some o) ∧ SqT K Hd st ss ∧ StNs K Hd ss m2) ⟨_, rfl, by simpa using hN1, s1, h3, h4⟩ (fun j σ Hd _ ⟨_, _, _, _, z, _⟩ => z) ?_ ?_
      · rintro j v σ Hd hv2 ⟨v3, rfl, hN2, s2, hst, hsn⟩
        obtain ⟨m3, hm3⟩ := zip_at hsn.1 hv2
        obtain ⟨q, dq, gs, x, r, rs, ys, rfl, g1, g2, g3, g4, g5, g6⟩ := hsn.2 j v m3 hv2 hm3
        have tot2 : (ms.take i).flatten.length + ((m2.take j).flatten.length + m3.length) ≤ 4000 := by
          have e := flat_take hm3
          have z := flat_le (ms := m2) (i := j + 1)
          rw [e, List.length_append] at z
          rw [h5] at tot
          omega
        have l3 : m3.length = 1 + rs.length := by rw [g6, g5.1, List.length_cons]; omega
        refine normG (σ' := [some (.ref l), some (.ref N), some (.ref p), some (.ref q), none]) rfl ?_
        have noN : ∀ {C d : Addr} {fs : List (Str × V)} {b : Addr}, Hd b = some (.ins C d fs) → b ≠ N := fun e z => by
          rw [z, hN2] at e
          cases e
        refine ⟨_, rfl, .inl ⟨rfl, _, SqL.of hN2⟩, _, rfl, q, _, dq, _, _, rfl, g1, T.clM, T.nMA, g2, N, _, _, rfl, rfl, hN2, ?_, ?_⟩
        · rw [List.length_map, List.length_append]
          omega
        obtain ⟨He, eHe⟩ : ∃ L, L = upd Hd N (.lst (((ms.take i).flatten ++ (m2.take j).flatten).map V.str ++ [.str x])) := ⟨_, rfl⟩
        have kE : ∀ b o, b ≠ N → Hd b = some o → He b = some o := fun b o nb e => by rw [eHe, upd_ne nb]; exact e
        have hNE : He N = some (.lst (((ms.take i).flatten ++ (m2.take j).flatten).map V.str ++ [.str x])) := by rw [eHe]; exact upd_same
        rw [← eHe]
        have upT : ∀ {b : Addr} {zs : List V} {Ha Hb : Hp} {ws : List V}, Ha N = some (.lst ws) → (∀ b o, b ≠ N → Ha b = some o → Hb b = some o) → SqT K Ha b zs → SqT K Hb b zs := fun hw kk hz => hz.imp (fun z => z.imp (fun z => kk _ _ (fun y => by
          rw [y, hw] at z
          cases z) z) fun ⟨o, z⟩ => ⟨o, kk _ _ (fun y => by
          rw [y, hw] at z
          cases z) z⟩) id
        have upN : ∀ {Ha Hb : Hp} {ws : List V}, Ha N = some (.lst ws) → (∀ b o, b ≠ N → Ha b = some o → Hb b = some o) → StNs K Ha ss m2 → StNs K Hb ss m2 := fun {Ha Hb ws} hw kk z => ⟨z.1, fun i v m a b => by
          have no : ∀ {C d : Addr} {fs : List (Str × V)} {b : Addr}, Ha b = some (.ins C d fs) → b ≠ N := fun e y => by
            rw [y, hw] at e
            cases e
          obtain ⟨q, dq, gs, x, r, rs, ys, e, g1, g2, g3, g4, g5, g6⟩ := z.2 i v m a b
          refine ⟨q, dq, gs, x, r, rs, ys, e, kk _ _ (no g1) g1, g2, g3, upT hw kk g4, ⟨g5.1, fun i v y a b => ?_⟩, g6⟩
          obtain ⟨q, dq, gs, e, g1, g2⟩ := g5.2 i v y a b
          exact ⟨q, dq, gs, e, kk _ _ (no g1) g1, g2⟩⟩
        have g1E := kE _ _ (noN g1) g1
        have g4E := upT hN2 kE g4
        have stE := upT hN2 kE hst
        have snE := upN hN2 kE hsn
        have g5E : RdNs K He rs ys := ⟨g5.1, fun i v y a b => by
          obtain ⟨q, dq, gs, e, g1, g2⟩ := g5.2 i v y a b
          exact ⟨q, dq, gs, e, kE _ _ (noN g1) g1, g2⟩⟩
        have sE : ∀ b o, H b = some o → He b = some o := fun b o e => kE b o (ne_of_none e hN) (s2 b o e)
        refine ⟨_, rfl, .inl ⟨rfl, _, SqL.of hNE⟩, _, rfl, q, _, dq, _, _, rfl, g1E, T.clM, T.nMR, g3, r, rfl, ⟨_, g4E⟩, fun D hD => ?_⟩
        have sD := Same.new (.lst []) (Same.refl He) hD
        refine lc_tup (xs := rs) (fun n Hf => Hf D = some (.lst ((ys.take n).map V.str)) ∧ ∀ b o, He b = some o → Hf b = some o) ⟨upd_same, sD⟩ (fun n Hf _ z => SqT.same g4E z.2) ?_ ?_
        · rintro n v Hf hv3 ⟨hD1, kF⟩
          obtain ⟨y, hy⟩ := zip_at g5E.1 hv3
          obtain ⟨u, du, us, rfl, u1, u2⟩ := g5E.2 n v y hv3 hy
          refine ⟨rfl, yes_of ?_⟩
          refine ⟨_, rfl, u, _, du, _, _, rfl, kF _ _ u1, T.clR, T.nRA, u2, _, hD1, ?_, ?_, fun b o e => ?_⟩
          · rw [List.length_map, List.length_take]
            have := g5.1
            omega
          · rw [upd_same, List.take_add_one, hy]
            simp
          · rw [upd_ne (ne_of_none e hD)]
            exact kF b o e
        · rintro Hf ⟨hD1, kF⟩
          rw [g5E.1, List.take_length] at hD1
          have hNF := kF _ _ hNE
          refine ⟨N, D, _, _, rfl, rfl, hNF, hD1, ?_, ?_⟩
          · rw [List.length_append, List.length_map, List.length_map, List.length_append, List.length_singleton]
            have := g5.1
            omega
          have kG : ∀ b o, b ≠ N → Hf b = some o → (upd Hf N (.lst (((ms.take i).flatten ++ (m2.take j).flatten).map V.str ++ [.str x] ++ ys.map V.str))) b = some o := fun b o nb e => by rw [upd_ne nb]; exact e
          refine ⟨_, rfl, ?_, fun b o e => kG b o (ne_of_none e hN) (kF _ _ (sE _ _ e)), upT hNF kG (SqT.same stE kF), upN hNF kG (snE.same kF)⟩
          rw [upd_same, flat_take hm3, g6]
          simp
      · rintro σ Hd ⟨v3, rfl, hN2, s2, _, hsn⟩
        refine ⟨_, _, rfl, ?_, s2⟩
        rw [hsn.1, List.take_length, ← h5] at hN2
        rw [flat_take hm]
        exact hN2
    · rintro σ Hc ⟨v2, v3, rfl, hN1, s1⟩
      rw [hms.1, List.take_length] at hN1
      refine ⟨_, rfl, N, _, rfl, SqL.of hN1, by show _ < 4096; omega, fun a ha => ?_⟩
      have s2 := Same.new (TxO w a ms.flatten.reverse) (Same.refl Hc) ha
      refine ⟨a, _, rfl, upd_same, by rw [List.length_reverse]; omega, fun ys p nd mem srt hp => ?_⟩
      refine ⟨p, _, rfl, .inl ⟨SqL.of upd_same, fun t ht => ?_⟩⟩
      refine k t ys _ (Same.new _ (Same.new _ (Same.new _ s1 ha) hp) ht) nd (fun x => by rw [mem x, List.mem_reverse]) srt (SqT.of upd_same)
theorem scProgram__init__ : FnScope ["self", "loops"] ["self", "loops"] (defScope iProgram__init__) := ⟨rfl, rfl, rfl, by decide +kernel, rfl, by decide +kernel, by decide +kernel⟩
theorem ok_PrI {fd : FuncData} {kws : List (Str × V)} (F : FunD K "__init__" "Program.__init__" (defArgs iProgram__init__) (defBody iProgram__init__) (defScope iProgram__init__) [] kws (He.ma K (CPr K) "__init__") fd) (T : PrTx K mg)
    (dCkM : Dx P w K mg base 3 "check_many" ["what", "things", "most"] (spCkM K)) (dArrays : Dn P w K mg base 1 "arrays_in" ["loops"] (spArr K)) :
    FnOk P w K mg base (L2.CX P w) 4 (He.ma K (CPr K) "__init__") fd ["self", "loops"] (spPrI K) := by
  refine F.ok scProgram__init__ (fun vs H Q E h => ?_) (fun cdv A outer s H vs Q E hr h => ?_)
  · obtain ⟨p, dx, l, xs, ms, rfl, _⟩ := h
    rfl
  · obtain ⟨p, dx, l, xs, ms, rfl, hp, hl, hms, few, kk⟩ := h
    obtain ⟨tMOST_LOOPS, hMOST_LOOPS⟩ := T.con ("MOST_LOOPS", 6) (by simp)
    refine ⟨_, (pss_cons (ps_expr (pe_dx (K := K) dCkM rfl hr (fun σ => passAt (takes_of rfl rfl rfl rfl) σ) (pa_cons pe_str (pa_cons (pv 1) (pa_cons (pe_glob (v := .int 6) rfl hMOST_LOOPS ⟨tMOST_LOOPS, rfl⟩) pa_nil)))))
      (pss_cons (ps_fld (pv 0) (pe_callTy call_tuple_of (by rfl) T.tuple (by decide +kernel) (pa_cons (pv 1) pa_nil)) rfl)
      (pss_cons (ps_fld (pv 0) (pe_dn dArrays hr (pa_cons (pe_fld (pv 0) rfl) pa_nil)) rfl)
      (pss_one (ps_fld (pv 0) pe_dnewK rfl))))), ?_⟩
    refine ⟨_, rfl, _, _, _, _, rfl, hl, Out.end_ kk (fun e z => z.rz (Keep.ofSame (Same.refl H))) fun kk => ?_⟩
    have tail : ∀ (lt : Addr) (H1 : Hp), Same H H1 → SqT K H1 lt xs → H1 p = some (.ins (CPr K) dx []) ∧ SqT K (upd H1 p (.ins (CPr K) dx (putF "loops" (.ref lt) []))) lt xs ∧ LpNs K (upd H1 p (.ins (CPr K) dx (putF "loops" (.ref lt) []))) xs ms ∧
        ∀ (t : Addr) (ys : List Str) (H' : Hp), Same (upd H1 p (.ins (CPr K) dx (putF "loops" (.ref lt) []))) H' → ys.Nodup → (∀ x, x ∈ ys ↔ x ∈ ms.flatten) → sortedS ys = true → SqT K H' t (ys.map V.str) →
          H' p = some (.ins (CPr K) dx (putF "loops" (.ref lt) [])) ∧ ∀ d, (upd H' p (.ins (CPr K) dx (prf2 lt t))) d = none → (upd (upd H' p (.ins (CPr K) dx (prf2 lt t))) d (.dK [])) p = some (.ins (CPr K) dx (prf2 lt t)) ∧ Q .non (upd (upd (upd H' p (.ins (CPr K) dx (prf2 lt t))) d (.dK [])) p (.ins (CPr K) dx (prf lt t d))) := by
      intro lt H1 s1 hlt
      have hp1 := s1 _ _ hp
      have k1 : Keep p H1 (upd H1 p (.ins (CPr K) dx (putF "loops" (.ref lt) []))) := keep_upd1
      refine ⟨hp1, SqT.up hlt hp1 k1, (hms.same s1).up hp1 k1 rfl rfl, fun t ys H' s2 nd mem srt ht => ?_⟩
      have hp2 := s2 _ _ upd_same
      refine ⟨hp2, fun d hd => ?_⟩
      have k2 : Keep p H' (upd H' p (.ins (CPr K) dx (prf2 lt t))) := keep_upd1
      have s3 := Same.new (.dK []) (Same.refl (upd H' p (.ins (CPr K) dx (prf2 lt t)))) hd
      have hp3 : (upd (upd H' p (.ins (CPr K) dx (prf2 lt t))) d (.dK [])) p = some (.ins (CPr K) dx (prf2 lt t)) := s3 _ _ upd_same
      have k4 : Keep p (upd (upd H' p (.ins (CPr K) dx (prf2 lt t))) d (.dK [])) (upd (upd (upd H' p (.ins (CPr K) dx (prf2 lt t))) d (.dK [])) p (.ins (CPr K) dx (prf lt t d))) := keep_upd1
      refine ⟨hp3, kk lt t d ys _ upd_same (SqT.up (SqT.same (SqT.up (SqT.same (SqT.up hlt hp1 k1) s2) hp2 k2) s3) hp3 k4) (SqT.up (SqT.same (SqT.up ht hp2 k2) s3) hp3 k4) nd mem srt ?_⟩
      exact keep_trans2 (keep_trans (keep_trans2 (keep_trans (keep_trans2 (Keep.ofSame s1) k1) s2) k2) s3) k4
    rcases hl with hL | hL
    · refine ⟨_, rfl, l, xs, rfl, .inl ⟨hL, fun lt hlt => ?_⟩⟩
      obtain ⟨t1, t2, t3, t4⟩ := tail lt _ (Same.new (.tup xs) (Same.refl H) hlt) (SqT.of upd_same)
      refine ⟨_, rfl, p, _, dx, _, rfl, t1, T.clP, T.nPL, pl0, ?_⟩
      refine ⟨_, rfl, p, _, dx, _, _, rfl, upd_same, T.clP, T.nPL, (by rw [lookup_putF, if_pos rfl]), lt, xs, ms, rfl, t2, t3, few, fun t ys H' s nd mem srt ht => ?_⟩
      obtain ⟨t5, t6⟩ := t4 t ys H' s nd mem srt ht
      refine ⟨_, rfl, p, _, dx, _, rfl, t5, T.clP, T.nPA, pl pl0, ?_⟩
      intro d hd
      obtain ⟨t7, t8⟩ := t6 d hd
      exact ⟨_, rfl, p, _, dx, _, rfl, t7, T.clP, T.nPK, pl (pl pl0), t8⟩
    · obtain ⟨t1, t2, t3, t4⟩ := tail l _ (Same.refl H) hL
      refine ⟨_, rfl, l, xs, rfl, .inr ⟨hL, ?_⟩⟩
      refine ⟨_, rfl, p, _, dx, _, rfl, t1, T.clP, T.nPL, pl0, ?_⟩
      refine ⟨_, rfl, p, _, dx, _, _, rfl, upd_same, T.clP, T.nPL, (by rw [lookup_putF, if_pos rfl]), l, xs, ms, rfl, t2, t3, few, fun t ys H' s nd mem srt ht => ?_⟩
      obtain ⟨t5, t6⟩ := t4 t ys H' s nd mem srt ht
      refine ⟨_, rfl, p, _, dx, _, rfl, t5, T.clP, T.nPA, pl pl0, ?_⟩
      intro d hd
      obtain ⟨t7, t8⟩ := t6 d hd
      exact ⟨_, rfl, p, _, dx, _, rfl, t7, T.clP, T.nPK, pl (pl pl0), t8⟩
end
end K35
set_option maxHeartbeats 4000000
namespace Z
open PySem PySem.Spec PyProof.Rows L2
section
variable {X : Cx} {K : PySem.W.Frag} {k j n : Nat} {f C : Addr} {fd : FuncData} {ps ks : List Str} {sp : Sp} {E : L2.St → XK} {x : Str} {p pos : Pos} {e : Expr} {es : List Expr} {kws : List Keyword} {t tk : TA} {g : List Value → List Value → List Value} {gV : List V → List V → List V}
/-- C(e, ..) with the promise of __init__ in another form -/
theorem pe_mkR {R : List V → Hp → VK → XK → Prop} {dvs : List V} {ds : List Value} (M : Mc X.prog X.w K X.mg X.base j x f fd ps sp) (hK : X.K = K) (hb : Binds K fd ps ds) (hd : Vals dvs ds)
    (of : ∀ {vs H Q E y dx}, R vs H Q E → H y = none → H dx = none → dx ≠ y → sp (.ref y :: (vs ++ dvs)) (upd (upd H dx (.own y)) y (.ins (He.ga K x) dx [])) (fun v H2 => v = .non ∧ Q (.ref y) H2) E)
    (hr : Room k X.A) (hx : ∀ σ, PassesAt (L2.CX X.prog X.w) X σ (E σ)) (ha : PA X (e :: es) t) (hjk : j + 1 ≤ k) (hg : Gl X x)
    (hdb : (x == ("__debug__" : Str)) = false) (he : starEach (e :: es) X.env = (false, eval e X.env) :: starEach es X.env) (hpl : (backTo pos (starEach es X.env)).any (·.1) = false) :
    PE X (.Call (.Name x p) (e :: es) [] pos) (fun σ H Q => t σ H fun vs H1 => R vs H1 Q (E σ)) := by
  subst hK
  refine ⟨fun pins s σ H Q I h => ?_⟩
  refine wpAny_Call_Name_kw (ld_glob I hg M.gC ?_ hdb)
  refine PySem.W.callWith_K (h₀ := X.base) I.ok.mod.kin M.mK.kp (thn (ha.run pos pins s σ H _ I h) fun us s1 ⟨vs, H1, I1, r, q⟩ => ⟨I1.kIn, ?_⟩) he hpl
  have q0 := of q (I1.hok.fresh (Nat.le_succ _)) (I1.hok.fresh (Nat.le_refl _)) (Nat.ne_of_lt (Nat.lt_succ_self _))
  have len : ∀ a : Addr, (Value.ref a :: us ++ ds).length = ps.length := fun a => by
    have e := M.fn.len _ _ _ _ q0
    have l1 := r.length
    have l2 := hd.length
    simp only [List.length_cons, List.length_append] at e ⊢
    omega
  exact make_run M.mK M.fn (hr.mono hjk) (hx σ) I1 (fun a => .cons rfl (r.append hd)) (fun s' a k => hb s' (Value.ref a :: us) k (len a)) fun y dx ny nd ne => of q ny nd ne
/-- C(e, .., k = v, ..) likewise -/
theorem pe_mkRK {R : List V → List V → Hp → VK → XK → Prop} (M : Mc X.prog X.w K X.mg X.base j x f fd ps sp) (hK : X.K = K) (hb : KBn K fd ps (n + 1) ks g gV)
    (of : ∀ {vs zs H Q E}, R vs zs H Q E → vs.length = n ∧ zs.length = ks.length ∧ ∀ y dx, H y = none → H dx = none → dx ≠ y → sp (gV (.ref y :: vs) zs) (upd (upd H dx (.own y)) y (.ins (He.ga K x) dx [])) (fun v H2 => v = .non ∧ Q (.ref y) H2) E)
    (hr : Room k X.A) (hx : ∀ σ, PassesAt (L2.CX X.prog X.w) X σ (E σ)) (ha : PA X (e :: es) t) (hkw : PK X kws tk) (hjk : j + 1 ≤ k) (hg : Gl X x)
    (hall : (backToKw pos (keywordEach kws X.env)).all (·.1.isSome) = true) (hks : (backToKw pos (keywordEach kws X.env)).filterMap (·.1) = ks) (hdb : (x == ("__debug__" : Str)) = false)
    (he : starEach (e :: es) X.env = (false, eval e X.env) :: starEach es X.env) (hpl : ((backTo pos (starEach (e :: es) X.env)).any (·.1) || (backToKw pos (keywordEach kws X.env)).any (·.1.isNone)) = false) :
    PE X (.Call (.Name x p) (e :: es) kws pos) (fun σ H Q => t σ H fun vs H1 => tk σ H1 fun zs H2 => R vs zs H2 Q (E σ)) := by
  subst hK
  refine ⟨fun pins s σ H Q I h => ?_⟩
  refine wpAny_Call_Name_kw (ld_glob I hg M.gC ?_ hdb)
  refine PySem.W.callWith_KW (h₀ := X.base) I.ok.mod.kin M.mK.kp hall (thn (ha.run pos pins s σ H _ I h) fun us s1 ⟨vs, H1, I1, r, q⟩ => ?_) hpl he
  refine thn (hkw.run pos pins s1 σ H1 _ I1 q) fun ws s2 ⟨zs, H2, I2, rz, q2⟩ => ⟨I2.kIn, ?_⟩
  obtain ⟨l1, l2, q3⟩ := of q2
  rw [hks]
  have q0 := q3 (s2.heap.objs.size + 1) s2.heap.objs.size (I2.hok.fresh (Nat.le_succ _)) (I2.hok.fresh (Nat.le_refl _)) (Nat.ne_of_lt (Nat.lt_succ_self _))
  have I3 := Inv.made (C := He.ga X.K x) I2
  have r1 : Vals (V.ref (s2.heap.objs.size + 1) :: vs) (Value.ref (s2.heap.objs.size + 1) :: us) := .cons rfl r
  have r2 := hb.rel r1 rz
  have n1 : (Value.ref (s2.heap.objs.size + 1) :: us).length = n + 1 := by rw [List.length_cons, ← r.length, l1]
  refine wpAny_call (make_map (f := f) I2.kIn M.mK.makes M.mK.init (beq_iff_eq.mp M.mK.fn) (codeAny_mono (M.fn.run _ X.stack _ _ ⟨Value.ref (s2.heap.objs.size + 1) :: us, ks.zip ws⟩ (g (Value.ref (s2.heap.objs.size + 1) :: us) ws) _ _ (E σ) ((hr.mono hjk).make _ us (ks.zip ws))
    (I3.env0.make _ us (ks.zip ws)) (hb.to _ (Value.ref (s2.heap.objs.size + 1) :: us) ws I3.kIn n1 (rz.length.symm.trans l2)) r2 q0) fun r' s' z => ?_))
  cases r' with
  | error e => exact hx σ pins _ _ e s' I3 z
  | ok fl =>
    cases fl with
    | ret u =>
      obtain ⟨v, H', I4, rv, ev, q3⟩ := I3.after z
      subst ev
      exact ⟨rv, ⟨V.ref (s2.heap.objs.size + 1), H', I4, rfl, q3⟩⟩
    | next => exact False.elim z
    | brk => exact False.elim z
    | cont => exact False.elim z
end
end Z
set_option maxHeartbeats 4000000
namespace K35
open PySem PySem.Spec PyProof.Rows L2 Z
abbrev rps : List Str := ["self", "array", "place", "factor"]
abbrev sps : List Str := ["self", "array", "cell", "constant", "reads", "conditions"]
abbrev lps : List Str := ["self", "low", "high", "statements", "step", "down"]
section
variable (P : Program) (w : World) (K : PySem.W.Frag) (mg : Str → Option Value) (base : Heap)
def MkRd : Prop := ∃ f fd, Mc P w K mg base 7 "Read" f fd rps (spRdI K) ∧ (∃ ds, Vals [.int 1] ds ∧ Binds K fd rps ds) ∧ KBn K fd rps 3 ["factor"] (fun us ws => us ++ ws) (fun vs zs => vs ++ zs)
def MkSt : Prop := ∃ f fd, ∃ r0 g0 : Addr, Mc P w K mg base 5 "Statement" f fd sps (spStI K) ∧ (∃ ds, Vals [.ref r0, .ref g0] ds ∧ Binds K fd sps ds) ∧ KBn K fd sps 4 ["reads", "conditions"] (fun us ws => us ++ ws) (fun vs zs => vs ++ zs) ∧
  (∃ mv, KBn K fd sps 4 ["conditions"] (fun us ws => us ++ (mv ++ ws)) (fun vs zs => vs ++ ([.ref r0] ++ zs))) ∧ ∀ H : Hp, SqT K H r0 [] ∧ SqT K H g0 []
def MkLp : Prop := ∃ f fd, Mc P w K mg base 7 "Loop" f fd lps (spLpI K) ∧ (∃ ds, Vals [.int 1, .bl false] ds ∧ Binds K fd lps ds) ∧ KBn K fd lps 4 ["step", "down"] (fun us ws => us ++ ws) (fun vs zs => vs ++ zs)
def MkPr : Prop := ∃ f fd, Mc P w K mg base 4 "Program" f fd ["self", "loops"] (spPrI K) ∧ Binds K fd ["self", "loops"] []
end
section
variable {P : Program} {w : World} {K : PySem.W.Frag} {mg : Str → Option Value} {base : Heap} {f : Addr} {fd : FuncData}
theorem mk_Rd (F : FunD K "__init__" "Read.__init__" (defArgs iRead__init__) (defBody iRead__init__) (defScope iRead__init__) [] [("factor", .int 1)] f fd) (M : Mc P w K mg base 7 "Read" f fd rps (spRdI K)) : MkRd P w K mg base := by
  obtain ⟨mv, kb⟩ := FunD.kbinds0 (ps := rps) F 3 ["factor"] [] (fun us _ ws => us ++ ws) (by simp) (by simp) (fun r1 _ r2 => r1.append r2)
    (fun D doc pm an cdv ct us mv ws l1 l2 l3 => match us, mv, ws, l1, l2, l3 with | [_, _, _], [], [_], _, _, _ => rfl)
  obtain ⟨ds, v, b⟩ := FunD.binds0 (ps := rps) F 3 (by simp) rfl
    (fun D doc pm an cdv ct us ks l1 l2 => match us, ks, l1, l2 with | [_, _, _], [_], _, _ => ⟨_, _, _, _, _, _, rfl, rfl, rfl⟩)
  exact ⟨f, fd, M, ⟨ds, v, b⟩, kb⟩
theorem mk_St {r0 g0 : Addr} (F : FunD K "__init__" "Statement.__init__" (defArgs iStatement__init__) (defBody iStatement__init__) (defScope iStatement__init__) [] [("reads", .ref r0), ("conditions", .ref g0)] f fd) (M : Mc P w K mg base 5 "Statement" f fd sps (spStI K))
    (h : ∀ H : Hp, SqT K H r0 [] ∧ SqT K H g0 []) : MkSt P w K mg base := by
  obtain ⟨mv, kb⟩ := FunD.kbinds0 (ps := sps) F 4 ["reads", "conditions"] [] (fun us _ ws => us ++ ws) (by simp) (by simp) (fun r1 _ r2 => r1.append r2)
    (fun D doc pm an cdv ct us mv ws l1 l2 l3 => match us, mv, ws, l1, l2, l3 with | [_, _, _, _], [], [_, _], _, _, _ => rfl)
  obtain ⟨mv2, kb2⟩ := FunD.kbinds0 (ps := sps) F 4 ["conditions"] [("reads", .ref r0)] (fun us mz ws => us ++ (mz ++ ws)) (by simp) (by simp) (fun r1 r2 r3 => r1.append (r2.append r3))
    (fun D doc pm an cdv ct us mv ws l1 l2 l3 => match us, mv, ws, l1, l2, l3 with | [_, _, _, _], [_], [_], _, _, _ => ⟨_, _, _, _, _, _, rfl, rfl, rfl⟩)
  obtain ⟨ds, v, b⟩ := FunD.binds0 (ps := sps) F 4 (by simp) rfl
    (fun D doc pm an cdv ct us ks l1 l2 => match us, ks, l1, l2 with | [_, _, _, _], [_, _], _, _ => ⟨_, _, _, _, _, _, rfl, rfl, _, _, _, _, _, _, rfl, rfl, rfl⟩)
  exact ⟨f, fd, r0, g0, M, ⟨ds, v, b⟩, kb, ⟨mv2, kb2⟩, h⟩
theorem mk_Lp (F : FunD K "__init__" "Loop.__init__" (defArgs iLoop__init__) (defBody iLoop__init__) (defScope iLoop__init__) [] [("step", .int 1), ("down", .bl false)] f fd) (M : Mc P w K mg base 7 "Loop" f fd lps (spLpI K)) : MkLp P w K mg base := by
  obtain ⟨mv, kb⟩ := FunD.kbinds0 (ps := lps) F 4 ["step", "down"] [] (fun us _ ws => us ++ ws) (by simp) (by simp) (fun r1 _ r2 => r1.append r2)
    (fun D doc pm an cdv ct us mv ws l1 l2 l3 => match us, mv, ws, l1, l2, l3 with | [_, _, _, _], [], [_, _], _, _, _ => rfl)
  obtain ⟨ds, v, b⟩ := FunD.binds0 (ps := lps) F 4 (by simp) rfl
    (fun D doc pm an cdv ct us ks l1 l2 => match us, ks, l1, l2 with | [_, _, _, _], [_, _], _, _ => ⟨_, _, _, _, _, _, rfl, rfl, _, _, _, _, _, _, rfl, rfl, rfl⟩)
  exact ⟨f, fd, M, ⟨ds, v, b⟩, kb⟩
end
section
variable (K : PySem.W.Frag)
def rRd (ws : List V) (H : Hp) (Q : VK) (E : XK) : Prop := ∃ (x : Str) (v : V) (f a b c d : Int), ws = [.str x, v, .int f] ∧ x.length ≤ 1000 ∧ PlV K H v a b c d ∧ Out (ckRead x f a b c d) (Rz K H E) (∀ p H', Same H H' → RdAt K H' p x a b c d f → Q (.ref p) H')
def rSt (ws : List V) (H : Hp) (Q : VK) (E : XK) : Prop := ∃ (x : Str) (v : V) (k : Int) (lr lc : Addr) (rs cs : List V) (cc : List (Int × Int × Int)) (a b c : Int), ws = [.str x, v, .int k, .ref lr, .ref lc] ∧ x.length ≤ 1000 ∧ SumV K H v a b c ∧
  SqA K H lr rs ∧ SqA K H lc cs ∧ Cnds K H cs cc ∧ Out (ckStm rs.length cs.length x cc a b c k) (Rz K H E) (∀ p H', Same H H' → StmAt K H' p x a b c k rs cs → Q (.ref p) H')
def rLp (ws : List V) (H : Hp) (Q : VK) (E : XK) : Prop := ∃ (v1 v2 : V) (l : Addr) (xs : List V) (t u : P4) (S : Int) (dn : Bool), ws = [v1, v2, .ref l, .int S, .bl dn] ∧ PlV K H v1 t.1 t.2.1 t.2.2.1 t.2.2.2 ∧ PlV K H v2 u.1 u.2.1 u.2.2.1 u.2.2.2 ∧ SqA K H l xs ∧
  Out (ckLp xs.length S t u) (Rz K H E) (∀ p H', Same H H' → LpAt K H' p t u S dn xs → Q (.ref p) H')
def PrAt (H : Hp) (p : Addr) (xs : List V) (ys : List Str) : Prop := ∃ dx l a d, H p = some (.ins (CPr K) dx (prf l a d)) ∧ SqT K H l xs ∧ SqT K H a (ys.map V.str)
def rPr (ws : List V) (H : Hp) (Q : VK) (E : XK) : Prop := ∃ (l : Addr) (xs : List V) (ms : List (List Str)), ws = [.ref l] ∧ SqA K H l xs ∧ LpNs K H xs ms ∧ ms.flatten.length ≤ 4000 ∧
  Out (ckM "loops" xs.length 6) (Rz K H E) (∀ p ys H', Same H H' → PrAt K H' p xs ys → ys.Nodup → (∀ x, x ∈ ys ↔ x ∈ ms.flatten) → sortedS ys = true → Q (.ref p) H')
end
section
variable {K : PySem.W.Frag} {H : Hp} {Q : VK} {E : XK} {p dx C : Addr}
theorem new_same (np : H p = none) (nd : H dx = none) (ne : dx ≠ p) : Same H (upd (upd H dx (.own p)) p (.ins C dx [])) := Same.new _ (Same.new _ (Same.refl H) nd) (by rw [upd_ne (Ne.symm ne)]; exact np)
theorem rz_new {e : Er} (np : H p = none) (nd : H dx = none) (h : Rz K H E e) : RzK K p (upd (upd H dx (.own p)) p (.ins C dx [])) E e := fun d H' k hd => h d H' (Same.made (Same.refl H) np nd k) hd
theorem rRd_of {ws : List V} (h : rRd K ws H Q E) (np : H p = none) (nd : H dx = none) (ne : dx ≠ p) : spRdI K (.ref p :: ws) (upd (upd H dx (.own p)) p (.ins (CRd K) dx [])) (fun v H2 => v = .non ∧ Q (.ref p) H2) E := by
  obtain ⟨x, v, f, a, b, c, d, rfl, hx, hv, k⟩ := h
  exact ⟨p, dx, x, v, f, a, b, c, d, rfl, upd_same, hx, hv.same (new_same np nd ne), Out.end_ k (fun e z => rz_new np nd z) fun k q H' hp hq kp => ⟨rfl, k p H' (Same.made (Same.refl H) np nd kp) ⟨dx, q, hp, hq⟩⟩⟩
theorem rSt_of {ws : List V} (h : rSt K ws H Q E) (np : H p = none) (nd : H dx = none) (ne : dx ≠ p) : spStI K (.ref p :: ws) (upd (upd H dx (.own p)) p (.ins (CSt K) dx [])) (fun v H2 => v = .non ∧ Q (.ref p) H2) E := by
  obtain ⟨x, v, k, lr, lc, rs, cs, cc, a, b, c, rfl, hx, hv, h1, h2, h3, kk⟩ := h
  have s := new_same (C := CSt K) np nd ne
  exact ⟨p, dx, x, v, k, lr, lc, rs, cs, cc, a, b, c, rfl, upd_same, hx, hv.same s, SqA.same h1 s, SqA.same h2 s, h3.same s, Out.end_ kk (fun e z => rz_new np nd z) fun kk q r g H' hp hq hr hg kp => ⟨rfl, kk p H' (Same.made (Same.refl H) np nd kp) ⟨dx, q, r, g, hp, hq, hr, hg⟩⟩⟩
theorem rLp_of {ws : List V} (h : rLp K ws H Q E) (np : H p = none) (nd : H dx = none) (ne : dx ≠ p) : spLpI K (.ref p :: ws) (upd (upd H dx (.own p)) p (.ins (CL K) dx [])) (fun v H2 => v = .non ∧ Q (.ref p) H2) E := by
  obtain ⟨v1, v2, l, xs, t, u, S, dn, rfl, h1, h2, h3, kk⟩ := h
  have s := new_same (C := CL K) np nd ne
  exact ⟨p, dx, v1, v2, l, xs, t, u, S, dn, rfl, upd_same, h1.same s, h2.same s, SqA.same h3 s, Out.end_ kk (fun e z => rz_new np nd z) fun kk lo hi st H' hp hq hr hg kp => ⟨rfl, kk p H' (Same.made (Same.refl H) np nd kp) ⟨dx, lo, hi, st, hp, hq, hr, hg⟩⟩⟩
theorem rPr_of {ws : List V} (h : rPr K ws H Q E) (np : H p = none) (nd : H dx = none) (ne : dx ≠ p) : spPrI K (.ref p :: ws) (upd (upd H dx (.own p)) p (.ins (CPr K) dx [])) (fun v H2 => v = .non ∧ Q (.ref p) H2) E := by
  obtain ⟨l, xs, ms, rfl, h1, h2, few, kk⟩ := h
  have s := new_same (C := CPr K) np nd ne
  exact ⟨p, dx, l, xs, ms, rfl, upd_same, SqA.same h1 s, h2.same s, few, Out.end_ kk (fun e z => rz_new np nd z) fun kk lt at_ dt ys H' hp h3 h4 h5 h6 h7 kp => ⟨rfl, kk p ys H' (Same.made (Same.refl H) np nd kp) ⟨dx, lt, at_, dt, hp, h3, h4⟩ h5 h6 h7⟩⟩
end
section
variable {X : Cx} {K : PySem.W.Frag} {k : Nat} {E : L2.St → XK} {p pos : Pos} {e : Expr} {es : List Expr} {kws : List Keyword} {t tk : TA}
theorem pe_RdP (M : MkRd X.prog X.w K X.mg X.base) (hK : X.K = K) (hr : Room k X.A) (hx : ∀ σ, PassesAt (L2.CX X.prog X.w) X σ (E σ)) (ha : PA X (e :: es) t) (hjk : 8 ≤ k := by decide) (hg : Gl X "Read" := by rfl) (he : starEach (e :: es) X.env = (false, eval e X.env) :: starEach es X.env := by rfl) (hpl : (backTo pos (starEach es X.env)).any (·.1) = false := by rfl) :
    PE X (.Call (.Name "Read" p) (e :: es) [] pos) (fun σ H Q => t σ H fun vs H1 => rRd K (vs ++ [.int 1]) H1 Q (E σ)) := by
  obtain ⟨f, fd, M, ⟨ds, v, b⟩, _⟩ := M
  exact pe_mkR (R := fun vs H1 Q E => rRd K (vs ++ [.int 1]) H1 Q E) M hK b v (fun q nx nd ne => rRd_of q nx nd ne) hr hx ha hjk hg (by decide) he hpl
theorem pe_StK2 (M : MkSt X.prog X.w K X.mg X.base) (hK : X.K = K) (hr : Room k X.A) (hx : ∀ σ, PassesAt (L2.CX X.prog X.w) X σ (E σ)) (ha : PA X (e :: es) t) (hkw : PK X kws tk) (hjk : 6 ≤ k := by decide) (hg : Gl X "Statement" := by rfl) (hall : (backToKw pos (keywordEach kws X.env)).all (·.1.isSome) = true := by rfl) (hks : (backToKw pos (keywordEach kws X.env)).filterMap (·.1) = (["reads", "conditions"] : List Str) := by rfl)
    (he : starEach (e :: es) X.env = (false, eval e X.env) :: starEach es X.env := by rfl) (hpl : ((backTo pos (starEach (e :: es) X.env)).any (·.1) || (backToKw pos (keywordEach kws X.env)).any (·.1.isNone)) = false := by rfl) :
    PE X (.Call (.Name "Statement" p) (e :: es) kws pos) (fun σ H Q => t σ H fun vs H1 => tk σ H1 fun zs H2 => vs.length = 3 ∧ zs.length = 2 ∧ rSt K (vs ++ zs) H2 Q (E σ)) := by
  obtain ⟨f, fd, r0, g0, M, _, kb, _⟩ := M
  exact pe_mkRK (n := 3) (R := fun vs zs H2 Q E => vs.length = 3 ∧ zs.length = 2 ∧ rSt K (vs ++ zs) H2 Q E) M hK kb (fun q => ⟨q.1, q.2.1, fun y dx ny nd ne => rSt_of q.2.2 ny nd ne⟩) hr hx ha hkw hjk hg hall hks (by decide) he hpl
theorem pe_LpK (M : MkLp X.prog X.w K X.mg X.base) (hK : X.K = K) (hr : Room k X.A) (hx : ∀ σ, PassesAt (L2.CX X.prog X.w) X σ (E σ)) (ha : PA X (e :: es) t) (hkw : PK X kws tk) (hjk : 8 ≤ k := by decide) (hg : Gl X "Loop" := by rfl) (hall : (backToKw pos (keywordEach kws X.env)).all (·.1.isSome) = true := by rfl) (hks : (backToKw pos (keywordEach kws X.env)).filterMap (·.1) = (["step", "down"] : List Str) := by rfl)
    (he : starEach (e :: es) X.env = (false, eval e X.env) :: starEach es X.env := by rfl) (hpl : ((backTo pos (starEach (e :: es) X.env)).any (·.1) || (backToKw pos (keywordEach kws X.env)).any (·.1.isNone)) = false := by rfl) :
    PE X (.Call (.Name "Loop" p) (e :: es) kws pos) (fun σ H Q => t σ H fun vs H1 => tk σ H1 fun zs H2 => vs.length = 3 ∧ zs.length = 2 ∧ rLp K (vs ++ zs) H2 Q (E σ)) := by
  obtain ⟨f, fd, M, _, kb⟩ := M
  exact pe_mkRK (n := 3) (R := fun vs zs H2 Q E => vs.length = 3 ∧ zs.length = 2 ∧ rLp K (vs ++ zs) H2 Q E) M hK kb (fun q => ⟨q.1, q.2.1, fun y dx ny nd ne => rLp_of q.2.2 ny nd ne⟩) hr hx ha hkw hjk hg hall hks (by decide) he hpl
theorem pe_PrP (M : MkPr X.prog X.w K X.mg X.base) (hK : X.K = K) (hr : Room k X.A) (hx : ∀ σ, PassesAt (L2.CX X.prog X.w) X σ (E σ)) (ha : PA X (e :: es) t) (hjk : 5 ≤ k := by decide) (hg : Gl X "Program" := by rfl) (he : starEach (e :: es) X.env = (false, eval e X.env) :: starEach es X.env := by rfl) (hpl : (backTo pos (starEach es X.env)).any (·.1) = false := by rfl) :
    PE X (.Call (.Name "Program" p) (e :: es) [] pos) (fun σ H Q => t σ H fun vs H1 => rPr K vs H1 Q (E σ)) := by
  obtain ⟨f, fd, M, b⟩ := M
  exact pe_mkR (R := fun vs H1 Q E => rPr K vs H1 Q E) M hK b .nil (fun q nx nd ne => by rw [List.append_nil]; exact rPr_of q nx nd ne) hr hx ha hjk hg (by decide) he hpl
end
end K35
namespace Z
/-- how many of the k turns from lo on have a rest among rs -/
def cntT (rs : List Int) (lo : Int) (k : Nat) : Nat := ((List.range k).filter fun (j : Nat) => decide ((lo + (j : Int)) % 12 ∈ rs)).length
theorem cntT_zero {rs : List Int} {lo : Int} : cntT rs lo 0 = 0 := rfl
theorem cntT_succ {rs : List Int} {lo : Int} {k : Nat} : cntT rs lo (k + 1) = cntT rs lo k + if (lo + (k : Int)) % 12 ∈ rs then 1 else 0 := by
  unfold cntT
  rw [List.range_succ, List.filter_append, List.length_append]
  congr 1
  by_cases h : (lo + (k : Int)) % 12 ∈ rs
  · rw [if_pos h, List.filter_cons_of_pos (by simpa using h)]
    rfl
  · rw [if_neg h, List.filter_cons_of_neg (by simpa using h)]
    rfl
theorem cnt_mono {rs : List Int} {lo : Int} {a b : Nat} (h : a ≤ b) : cntT rs lo a ≤ cntT rs lo b := by
  obtain ⟨d, rfl⟩ : ∃ d, b = a + d := ⟨b - a, by omega⟩
  clear h
  induction d with
  | zero => exact Nat.le_refl _
  | succ d ih =>
    have e : cntT rs lo (a + (d + 1)) = cntT rs lo (a + d) + _ := cntT_succ
    omega
/-- the rests: of 0 to 11, none twice -/
structure RsOk (rs : List Int) : Prop where
  nd : rs.Nodup
  low : ∀ r ∈ rs, 0 ≤ r ∧ r < 12
def few (rs : List Int) (lo p : Int) : Nat := (rs.filter fun r => decide ((r - lo) % 12 < p)).length
theorem few_zero {rs : List Int} {lo : Int} : few rs lo 0 = 0 := by
  unfold few
  rw [List.filter_eq_nil_iff.mpr]
  · rfl
  · intro r hr
    simp only [decide_eq_true_eq]
    omega
theorem few_all {rs : List Int} {lo : Int} : few rs lo 12 = rs.length := by
  unfold few
  rw [List.filter_eq_self.mpr]
  intro r hr
  simp only [decide_eq_true_eq]
  omega
theorem few_succ {lo p : Int} (p0 : 0 ≤ p) (p1 : p < 12) : ∀ {rs : List Int}, RsOk rs → few rs lo (p + 1) = few rs lo p + if (lo + p) % 12 ∈ rs then 1 else 0
  | [], _ => by simp [few]
  | r :: rs, h => by
    have h1 := List.nodup_cons.mp h.nd
    have ih := few_succ (lo := lo) p0 p1 (rs := rs) ⟨h1.2, fun x hx => h.low x (List.mem_cons_of_mem _ hx)⟩
    have hr := h.low r List.mem_cons_self
    unfold few at ih ⊢
    by_cases e : (lo + p) % 12 = r
    · have e1 : (r - lo) % 12 = p := by omega
      have ne : ¬ (lo + p) % 12 ∈ rs := by rw [e]; exact h1.1
      rw [if_neg ne] at ih
      rw [List.filter_cons_of_pos (by simp only [decide_eq_true_eq]; omega), List.filter_cons_of_neg (by simp only [decide_eq_true_eq]; omega), if_pos (by rw [e]; exact List.mem_cons_self), List.length_cons]
      omega
    · have e1 : (r - lo) % 12 ≠ p := by omega
      have em : ((lo + p) % 12 ∈ r :: rs) ↔ (lo + p) % 12 ∈ rs := by
        rw [List.mem_cons]
        exact ⟨fun z => z.resolve_left e, .inr⟩
      rw [show (if (lo + p) % 12 ∈ r :: rs then 1 else 0) = (if (lo + p) % 12 ∈ rs then 1 else 0) by simp only [em]]
      by_cases q : (r - lo) % 12 < p
      · rw [List.filter_cons_of_pos (by simp only [decide_eq_true_eq]; omega), List.filter_cons_of_pos (by simp only [decide_eq_true_eq]; omega), List.length_cons, List.length_cons, ih]
        omega
      · rw [List.filter_cons_of_neg (by simp only [decide_eq_true_eq]; omega), List.filter_cons_of_neg (by simp only [decide_eq_true_eq]; omega), ih]
/-- the count, by whole cycles and a part -/
theorem cntT_is {rs : List Int} (h : RsOk rs) (lo : Int) : ∀ k : Nat, cntT rs lo k = k / 12 * rs.length + few rs lo ((k % 12 : Nat) : Int)
  | 0 => by rw [cntT_zero]; simp [few_zero]
  | k + 1 => by
    rw [cntT_succ, cntT_is h lo k]
    have hp : k % 12 < 12 := Nat.mod_lt _ (by decide)
    have f := few_succ (lo := lo) (p := ((k % 12 : Nat) : Int)) (by omega) (by omega) h
    have e : (lo + ((k % 12 : Nat) : Int)) % 12 = (lo + (k : Int)) % 12 := by omega
    rw [e] at f
    by_cases q : k % 12 = 11
    · have e1 : (k + 1) / 12 = k / 12 + 1 := by omega
      have e2 : (k + 1) % 12 = 0 := by omega
      rw [q] at f ⊢
      rw [e1, e2]
      have f12 : few rs lo (((11 : Nat) : Int) + 1) = rs.length := few_all
      rw [f12] at f
      have fz : few rs lo ((0 : Nat) : Int) = 0 := few_zero
      rw [fz, Nat.add_mul]
      omega
    · have e1 : (k + 1) / 12 = k / 12 := by omega
      have e2 : (k + 1) % 12 = k % 12 + 1 := by omega
      rw [e1, e2]
      have f2 : few rs lo ((k % 12 + 1 : Nat) : Int) = few rs lo (((k % 12 : Nat) : Int) + 1) := rfl
      rw [f2, f]
      omega
/-- turns from lo to hi whose rests are among rs -/
structure Tn where
  lo : Int
  hi : Int
  rs : List Int
def Tn.has (T : Tn) (t : Int) : Bool := decide (T.lo ≤ t) && decide (t ≤ T.hi) && decide (t % 12 ∈ T.rs)
theorem Tn.has_iff {T : Tn} {t : Int} : T.has t = true ↔ T.lo ≤ t ∧ t ≤ T.hi ∧ t % 12 ∈ T.rs := by
  unfold Tn.has
  simp only [Bool.and_eq_true, decide_eq_true_eq, and_assoc]
/-- how many turns of T stand below t -/
def Tn.below (T : Tn) (t : Int) : Nat := ((List.range t.toNat).filter fun (j : Nat) => T.has (j : Int)).length
def mBefore (T : Tn) (t : Int) : Int := if (min t (T.hi + 1) - T.lo).fdiv 12 < 0 then 0 else (min t (T.hi + 1) - T.lo).fdiv 12 * (T.rs.length : Int) + (few T.rs T.lo ((min t (T.hi + 1) - T.lo).fmod 12) : Int)
theorem fdiv12 (q : Int) : q.fdiv 12 = q / 12 := Int.fdiv_eq_ediv_of_nonneg _ (by decide)
theorem fmod12 (q : Int) : q.fmod 12 = q % 12 := Int.fmod_eq_emod_of_nonneg _ (by decide)
theorem mBefore_cnt {T : Tn} (h : RsOk T.rs) (t : Int) : mBefore T t = (cntT T.rs T.lo (min t (T.hi + 1) - T.lo).toNat : Int) := by
  unfold mBefore
  rw [fdiv12, fmod12]
  by_cases q : (min t (T.hi + 1) - T.lo) / 12 < 0
  · rw [if_pos q]
    have e : (min t (T.hi + 1) - T.lo).toNat = 0 := by omega
    rw [e, cntT_zero]
    rfl
  · rw [if_neg q]
    obtain ⟨k, hk⟩ : ∃ k : Nat, (k : Int) = min t (T.hi + 1) - T.lo := ⟨(min t (T.hi + 1) - T.lo).toNat, by omega⟩
    rw [← hk, Int.toNat_natCast, cntT_is h, Int.natCast_add, Int.natCast_mul]
    rfl
theorem below_succ {T : Tn} {k : Nat} : T.below ((k : Int) + 1) = T.below (k : Int) + if T.has (k : Int) = true then 1 else 0 := by
  unfold Tn.below
  have e : ((k : Int) + 1).toNat = k + 1 := by omega
  rw [e, Int.toNat_natCast, List.range_succ, List.filter_append, List.length_append]
  congr 1
  by_cases h : T.has (k : Int) = true
  · rw [if_pos h, List.filter_cons_of_pos (by simpa using h)]
    rfl
  · rw [if_neg h, List.filter_cons_of_neg (by simpa using h)]
    rfl
theorem below_is {T : Tn} (l0 : 0 ≤ T.lo) : ∀ k : Nat, (cntT T.rs T.lo (min (k : Int) (T.hi + 1) - T.lo).toNat) = T.below (k : Int)
  | 0 => by
    have e : (min ((0 : Nat) : Int) (T.hi + 1) - T.lo).toNat = 0 := by omega
    rw [e, cntT_zero]
    rfl
  | k + 1 => by
    have ih := below_is l0 k
    have e0 : ((k + 1 : Nat) : Int) = (k : Int) + 1 := rfl
    rw [e0, below_succ, ← ih]
    by_cases h : T.lo ≤ (k : Int) ∧ (k : Int) ≤ T.hi
    · have e1 : (min ((k : Int) + 1) (T.hi + 1) - T.lo).toNat = (min (k : Int) (T.hi + 1) - T.lo).toNat + 1 := by omega
      have e2 : T.lo + (((min (k : Int) (T.hi + 1) - T.lo).toNat : Nat) : Int) = (k : Int) := by omega
      rw [e1, cntT_succ, e2]
      have e3 : (T.has (k : Int) = true) ↔ (k : Int) % 12 ∈ T.rs := by
        rw [Tn.has_iff]
        exact ⟨fun z => z.2.2, fun z => ⟨h.1, h.2, z⟩⟩
      simp only [e3]
    · have e1 : (min ((k : Int) + 1) (T.hi + 1) - T.lo).toNat = (min (k : Int) (T.hi + 1) - T.lo).toNat := by omega
      rw [e1, if_neg fun z => h ⟨(Tn.has_iff.mp z).1, (Tn.has_iff.mp z).2.1⟩, Nat.add_zero]
/-- many_before tells how many turns stand below -/
theorem mBefore_is {T : Tn} (h : RsOk T.rs) (l0 : 0 ≤ T.lo) {t : Int} (t0 : 0 ≤ t) : mBefore T t = (T.below t : Int) := by
  obtain ⟨k, rfl⟩ : ∃ k : Nat, t = (k : Int) := ⟨t.toNat, by omega⟩
  rw [mBefore_cnt h, below_is l0]
def narrowL (lo hi start g : Int) : Int × Int := if g > 0 then (max lo (-(start.fdiv g)), hi) else if g < 0 then (lo, min hi (start.fdiv (-g))) else if start ≥ 0 then (lo, hi) else (0, -1)
theorem narrow_ok {lo hi start g t : Int} : ((narrowL lo hi start g).1 ≤ t ∧ t ≤ (narrowL lo hi start g).2) ↔ (lo ≤ t ∧ t ≤ hi ∧ 0 ≤ start + g * t) := by
  unfold narrowL
  by_cases h1 : g > 0
  · rw [if_pos h1]
    dsimp only
    rw [Int.fdiv_eq_ediv_of_nonneg _ (by omega)]
    have e : -(start / g) ≤ t ↔ 0 ≤ start + g * t := by
      have q := Int.le_ediv_iff_mul_le (a := -t) (b := start) (c := g) h1
      have e1 : -t * g = -(g * t) := by rw [Int.neg_mul, Int.mul_comm]
      rw [e1] at q
      constructor
      · intro z
        have := q.mp (by omega)
        omega
      · intro z
        have := q.mpr (by omega)
        omega
    rw [← e]
    omega
  · rw [if_neg h1]
    by_cases h2 : g < 0
    · rw [if_pos h2]
      dsimp only
      rw [Int.fdiv_eq_ediv_of_nonneg _ (by omega)]
      have e : t ≤ start / (-g) ↔ 0 ≤ start + g * t := by
        have q := Int.le_ediv_iff_mul_le (a := t) (b := start) (c := -g) (by omega)
        have e1 : t * -g = -(g * t) := by rw [Int.mul_neg, Int.mul_comm]
        rw [e1] at q
        rw [q]
        omega
      rw [← e]
      omega
    · rw [if_neg h2]
      have g0 : g = 0 := by omega
      subst g0
      rw [Int.zero_mul, Int.add_zero]
      by_cases h3 : start ≥ 0
      · rw [if_pos h3]
        exact ⟨fun z => ⟨z.1, z.2, h3⟩, fun z => ⟨z.1, z.2.1⟩⟩
      · rw [if_neg h3]
        dsimp only
        omega
/-- the least turn of T from t on, by the least of each rest -/
theorem next_has {T : Tn} (h : RsOk T.rs) {t m : Int} (hm : m ∈ T.rs.map fun r => max t T.lo + (r - max t T.lo) % 12) (hh : m ≤ T.hi) : T.has m = true ∧ t ≤ m := by
  obtain ⟨r, hr, rfl⟩ := List.mem_map.mp hm
  have q := h.low r hr
  have e : (max t T.lo + (r - max t T.lo) % 12) % 12 = r := by omega
  rw [Tn.has_iff, e]
  exact ⟨⟨by omega, hh, hr⟩, by omega⟩
theorem next_least {T : Tn} {t m v : Int} (hm : ∀ x ∈ T.rs.map fun r => max t T.lo + (r - max t T.lo) % 12, m ≤ x) (h : T.has v = true) (hv : t ≤ v) : m ≤ v := by
  obtain ⟨h1, h2, h3⟩ := Tn.has_iff.mp h
  have q := hm _ (List.mem_map.mpr ⟨_, h3, rfl⟩)
  omega
theorem next_none {T : Tn} {t v : Int} (h : T.rs = []) : T.has v = false := by
  cases e : T.has v with
  | false => rfl
  | true =>
    have q := (Tn.has_iff.mp e).2.2
    rw [h] at q
    exact absurd q List.not_mem_nil
theorem last_has {T : Tn} (h : RsOk T.rs) {t m : Int} (hm : m ∈ T.rs.map fun r => min t T.hi - (min t T.hi - r) % 12) (hl : T.lo ≤ m) : T.has m = true ∧ m ≤ t := by
  obtain ⟨r, hr, rfl⟩ := List.mem_map.mp hm
  have q := h.low r hr
  have e : (min t T.hi - (min t T.hi - r) % 12) % 12 = r := by omega
  rw [Tn.has_iff, e]
  exact ⟨⟨hl, by omega, hr⟩, by omega⟩
theorem last_most {T : Tn} {t m v : Int} (hm : ∀ x ∈ T.rs.map fun r => min t T.hi - (min t T.hi - r) % 12, x ≤ m) (h : T.has v = true) (hv : v ≤ t) : v ≤ m := by
  obtain ⟨h1, h2, h3⟩ := Tn.has_iff.mp h
  have q := hm _ (List.mem_map.mpr ⟨_, h3, rfl⟩)
  omega
/-- a sum that grows by a fixed step has, at a rest of at most 4, the cycle of 12 -/
theorem cycle_mod {x s m t : Int} (hm : m = 1 ∨ m = 2 ∨ m = 3 ∨ m = 4) : (x + s * t) % m = (x + s * (t % 12)) % m := by
  have e : t = t % 12 + 12 * (t / 12) := by omega
  have e2 : s * t = s * (t % 12) + 12 * (s * (t / 12)) := by
    conv => lhs; rw [e, Int.mul_add]
    rw [Int.mul_left_comm]
  rw [e2]
  obtain ⟨y, hy⟩ : ∃ y, y = s * (t / 12) := ⟨_, rfl⟩
  obtain ⟨z, hz⟩ : ∃ z, z = s * (t % 12) := ⟨_, rfl⟩
  rw [← hy, ← hz]
  rcases hm with rfl | rfl | rfl | rfl <;> omega
/-- the turns that stay behind conditions: each narrows the ends or strikes rests -/
inductive Cd where
  | lea (start growth : Int)
  | rst (x s m r : Int)
def Cd.at (c : Cd) (t : Int) : Bool := match c with
  | .lea x g => decide (0 ≤ x + g * t)
  | .rst x s m r => decide ((x + s * t).fmod m = r)
def dtStep (T : Tn) (c : Cd) : Tn := match c with
  | .lea x g => ⟨(narrowL T.lo T.hi x g).1, (narrowL T.lo T.hi x g).2, T.rs⟩
  | .rst x s m r => ⟨T.lo, T.hi, T.rs.filter fun t => Cd.at (.rst x s m r) t⟩
def Cd.Ok : Cd → Prop
  | .lea _ _ => True
  | .rst _ _ m _ => m = 1 ∨ m = 2 ∨ m = 3 ∨ m = 4
theorem dtStep_has {T : Tn} {c : Cd} (hc : c.Ok) {t : Int} : (dtStep T c).has t = (T.has t && c.at t) := by
  rw [Bool.eq_iff_iff, Bool.and_eq_true, Tn.has_iff, Tn.has_iff]
  cases c with
  | lea x g =>
    have q := narrow_ok (lo := T.lo) (hi := T.hi) (start := x) (g := g) (t := t)
    show ((narrowL T.lo T.hi x g).1 ≤ t ∧ t ≤ (narrowL T.lo T.hi x g).2 ∧ t % 12 ∈ T.rs) ↔ _ ∧ decide (0 ≤ x + g * t) = true
    rw [← and_assoc, q, decide_eq_true_eq]
    constructor
    · rintro ⟨⟨a, b, c⟩, d⟩
      exact ⟨⟨a, b, d⟩, c⟩
    · rintro ⟨⟨a, b, d⟩, c⟩
      exact ⟨⟨a, b, c⟩, d⟩
  | rst x s m r =>
    have m0 : 0 ≤ m := by rcases hc with h | h | h | h <;> omega
    have e : Cd.at (.rst x s m r) (t % 12) = Cd.at (.rst x s m r) t := by
      show decide _ = decide _
      rw [Int.fmod_eq_emod_of_nonneg _ m0, Int.fmod_eq_emod_of_nonneg _ m0, ← cycle_mod (x := x) (s := s) (t := t) hc]
    show (T.lo ≤ t ∧ t ≤ T.hi ∧ t % 12 ∈ T.rs.filter fun t => Cd.at (.rst x s m r) t) ↔ _
    rw [List.mem_filter, e]
    constructor
    · rintro ⟨a, b, c, d⟩
      exact ⟨⟨a, b, c⟩, d⟩
    · rintro ⟨⟨a, b, c⟩, d⟩
      exact ⟨a, b, c, d⟩
theorem dtStep_rs {T : Tn} {c : Cd} (h : RsOk T.rs) : RsOk (dtStep T c).rs := by
  cases c with
  | lea x g => exact h
  | rst x s m r => exact ⟨h.nd.filter _, fun y hy => h.low y (List.mem_filter.mp hy).1⟩
theorem rs12 : RsOk [0, 1, 2, 3, 4, 5, 6, 7, 8, 9, 10, 11] := ⟨by decide, by decide⟩
/-- what done_turns tells: the turns below N at which all conditions hold -/
def dtAll (N : Int) (cs : List Cd) : Tn := cs.foldl dtStep ⟨0, N - 1, [0, 1, 2, 3, 4, 5, 6, 7, 8, 9, 10, 11]⟩
theorem dtAll_has {N : Int} {cs : List Cd} (ok : ∀ c ∈ cs, c.Ok) {t : Int} : (dtAll N cs).has t = (decide (0 ≤ t) && decide (t < N) && cs.all fun c => c.at t) := by
  unfold dtAll
  have base : Tn.has ⟨0, N - 1, [0, 1, 2, 3, 4, 5, 6, 7, 8, 9, 10, 11]⟩ t = (decide (0 ≤ t) && decide (t < N)) := by
    rw [Bool.eq_iff_iff, Tn.has_iff, Bool.and_eq_true, decide_eq_true_eq, decide_eq_true_eq]
    simp only [List.mem_cons, List.not_mem_nil, or_false]
    omega
  have all : ∀ (cs : List Cd) (T : Tn), (∀ c ∈ cs, c.Ok) → (cs.foldl dtStep T).has t = (T.has t && cs.all fun c => c.at t) := by
    intro cs
    induction cs with
    | nil => intro T _; simp
    | cons c cs ih =>
      intro T h
      rw [List.foldl_cons, ih _ fun c hc => h c (List.mem_cons_of_mem _ hc), dtStep_has (h c List.mem_cons_self), List.all_cons, Bool.and_assoc]
  rw [all cs _ ok, base]
theorem dtAll_ok {N : Int} {cs : List Cd} (hN : 0 ≤ N) : RsOk (dtAll N cs).rs ∧ 0 ≤ (dtAll N cs).lo := by
  unfold dtAll
  have all : ∀ (cs : List Cd) (T : Tn), RsOk T.rs → 0 ≤ T.lo → RsOk (cs.foldl dtStep T).rs ∧ 0 ≤ (cs.foldl dtStep T).lo := by
    intro cs
    induction cs with
    | nil => exact fun T h1 h2 => ⟨h1, h2⟩
    | cons c cs ih =>
      intro T h1 h2
      rw [List.foldl_cons]
      refine ih _ (dtStep_rs h1) ?_
      cases c with
      | lea x g =>
        show 0 ≤ (narrowL T.lo T.hi x g).1
        unfold narrowL
        split
        · show 0 ≤ max T.lo _
          omega
        · split
          · exact h2
          · split
            · exact h2
            · exact Int.le_refl _
      | rst x s m r => exact h2
  exact all cs _ rs12 (Int.le_refl _)
/-- the columns done at a turn -/
def dnAt (cols : List Tn) (t k : Nat) : Bool := match cols[k]? with
  | some T => T.has (t : Int)
  | none => false
def dn (cols : List Tn) (t : Nat) : List Nat := (List.range cols.length).filter fun (k : Nat) => dnAt cols t k
theorem dn_len0 {cols : List Tn} {t : Nat} : ∀ m, m ≤ cols.length → ((List.range m).filter fun (k : Nat) => dnAt cols t k).length = ((cols.take m).filter fun T => T.has (t : Int)).length
  | 0, _ => by simp
  | m + 1, h => by
    have ih := dn_len0 (cols := cols) (t := t) m (by omega)
    obtain ⟨T, hT⟩ : ∃ T, cols[m]? = some T := ⟨_, List.getElem?_eq_getElem h⟩
    have e : dnAt cols t m = T.has (t : Int) := by
      unfold dnAt
      rw [hT]
    rw [List.range_succ, List.take_add_one, hT, List.filter_append, List.filter_append, List.length_append, List.length_append, ih]
    congr 1
    show ([m].filter _).length = ([T].filter _).length
    by_cases q : T.has (t : Int) = true
    · rw [List.filter_cons_of_pos (by rw [e]; exact q), List.filter_cons_of_pos (p := fun (T : Tn) => T.has (t : Int)) q]
      rfl
    · rw [List.filter_cons_of_neg (by rw [e]; exact q), List.filter_cons_of_neg (p := fun (T : Tn) => T.has (t : Int)) q]
      rfl
theorem dn_len {cols : List Tn} {t : Nat} : (dn cols t).length = (cols.filter fun T => T.has (t : Int)).length := by
  have q := dn_len0 (cols := cols) (t := t) cols.length (Nat.le_refl _)
  rw [List.take_length] at q
  exact q
/-- how many works stand below a turn -/
def wb (cols : List Tn) (t : Nat) : Nat := (cols.map fun T => T.below (t : Int)).sum
theorem wb_zero {cols : List Tn} : wb cols 0 = 0 := by
  unfold wb
  induction cols with
  | nil => rfl
  | cons T cols ih => rw [List.map_cons, List.sum_cons, ih]; rfl
theorem wb_succ {cols : List Tn} {t : Nat} : wb cols (t + 1) = wb cols t + (dn cols t).length := by
  rw [dn_len]
  unfold wb
  induction cols with
  | nil => rfl
  | cons T cols ih =>
    rw [List.map_cons, List.map_cons, List.sum_cons, List.sum_cons, ih]
    have e : T.below (((t + 1 : Nat)) : Int) = T.below (t : Int) + if T.has (t : Int) = true then 1 else 0 := below_succ
    rw [e]
    by_cases q : T.has (t : Int) = true
    · rw [if_pos q, List.filter_cons_of_pos (p := fun (T : Tn) => T.has (t : Int)) q, List.length_cons]
      omega
    · rw [if_neg q, List.filter_cons_of_neg (p := fun (T : Tn) => T.has (t : Int)) q]
      omega
/-- the works of a loop, turn by turn -/
def wl (cols : List Tn) (N : Nat) : List (Nat × Nat) := (List.range N).flatMap fun (t : Nat) => (dn cols t).map fun k => (t, k)
theorem wl_succ {cols : List Tn} {N : Nat} : wl cols (N + 1) = wl cols N ++ (dn cols N).map fun k => (N, k) := by
  unfold wl
  rw [List.range_succ, List.flatMap_append]
  simp
theorem wl_len {cols : List Tn} : ∀ N, (wl cols N).length = wb cols N
  | 0 => by rw [wb_zero]; rfl
  | N + 1 => by rw [wl_succ, List.length_append, wl_len N, List.length_map, wb_succ]
/-- the work at a number: its turn, its place among what is done there -/
theorem wl_at {cols : List Tn} {t i k : Nat} : ∀ {N : Nat}, t < N → (dn cols t)[i]? = some k → (wl cols N)[wb cols t + i]? = some (t, k)
  | 0, h, _ => by omega
  | N + 1, h, hk => by
    have hi := (List.getElem?_eq_some_iff.mp hk).1
    rw [wl_succ]
    by_cases e : t = N
    · subst e
      rw [List.getElem?_append_right (by rw [wl_len]; omega), wl_len, List.getElem?_map, show wb cols t + i - wb cols t = i by omega, hk]
      rfl
    · have ih := wl_at (N := N) (by omega) hk
      have := (List.getElem?_eq_some_iff.mp ih).1
      rw [List.getElem?_append_left this]
      exact ih
theorem wb_mono {cols : List Tn} {a b : Nat} (h : a ≤ b) : wb cols a ≤ wb cols b := by
  obtain ⟨d, rfl⟩ : ∃ d, b = a + d := ⟨b - a, by omega⟩
  clear h
  induction d with
  | zero => exact Nat.le_refl _
  | succ d ih =>
    have e : wb cols (a + (d + 1)) = wb cols (a + d) + (dn cols (a + d)).length := wb_succ
    omega
/-- a turn is told by a number that is between -/
theorem wb_turn {cols : List Tn} {num : Nat} : ∀ {M : Nat}, num < wb cols M → ∃ t, t < M ∧ wb cols t ≤ num ∧ num < wb cols (t + 1)
  | 0, h => by
    rw [wb_zero] at h
    omega
  | M + 1, h => by
    by_cases q : wb cols M ≤ num
    · exact ⟨M, by omega, q, h⟩
    · obtain ⟨t, h1, h2⟩ := wb_turn (cols := cols) (num := num) (M := M) (by omega)
      exact ⟨t, by omega, h2⟩
/-- between two marks: nothing begins and nothing ends -/
def Still (cols : List Tn) (a b : Nat) : Prop := ∀ T ∈ cols, (T.lo ≤ (a : Int) ∨ (b : Int) ≤ T.lo) ∧ (T.hi + 1 ≤ (a : Int) ∨ (b : Int) ≤ T.hi + 1)
def live (cols : List Tn) (a : Nat) : List Tn := cols.filter fun T => decide (T.lo ≤ (a : Int)) && decide ((a : Int) ≤ T.hi)
def perC (cols : List Tn) (a : Nat) : Nat := ((live cols a).map fun T => T.rs.length).sum
theorem cntT_12 {rs : List Int} (h : RsOk rs) {lo : Int} {k : Nat} : cntT rs lo (k + 12) = cntT rs lo k + rs.length := by
  rw [cntT_is h, cntT_is h]
  have e1 : (k + 12) / 12 = k / 12 + 1 := by omega
  have e2 : (k + 12) % 12 = k % 12 := by omega
  rw [e1, e2, Nat.add_mul]
  omega
theorem below_12 {T : Tn} (h : RsOk T.rs) (l0 : 0 ≤ T.lo) {t : Nat} (h1 : T.lo ≤ (t : Int)) (h2 : (t : Int) + 12 ≤ T.hi + 1) : T.below ((t + 12 : Nat) : Int) = T.below (t : Int) + T.rs.length := by
  rw [← below_is l0 (t + 12), ← below_is l0 t]
  have e : (min (((t + 12 : Nat)) : Int) (T.hi + 1) - T.lo).toNat = (min (t : Int) (T.hi + 1) - T.lo).toNat + 12 := by omega
  rw [e, cntT_12 h]
theorem below_same {T : Tn} (l0 : 0 ≤ T.lo) {t u : Nat} (h : (u : Int) ≤ T.lo ∨ T.hi + 1 ≤ (t : Int)) (tu : t ≤ u) : T.below (u : Int) = T.below (t : Int) := by
  rw [← below_is l0 u, ← below_is l0 t]
  have e : (min (u : Int) (T.hi + 1) - T.lo).toNat = (min (t : Int) (T.hi + 1) - T.lo).toNat := by omega
  rw [e]
theorem wb_12 {cols : List Tn} {a b t : Nat} (ok : ∀ T ∈ cols, RsOk T.rs ∧ 0 ≤ T.lo) (st : Still cols a b) (h1 : a ≤ t) (h2 : t + 12 ≤ b) : wb cols (t + 12) = wb cols t + perC cols a := by
  unfold wb perC live
  induction cols with
  | nil => rfl
  | cons T cols ih =>
    have ih := ih (fun T hT => ok T (List.mem_cons_of_mem _ hT)) fun T hT => st T (List.mem_cons_of_mem _ hT)
    obtain ⟨o1, o2⟩ := ok T List.mem_cons_self
    obtain ⟨s1, s2⟩ := st T List.mem_cons_self
    rw [List.map_cons, List.map_cons, List.sum_cons, List.sum_cons, ih]
    by_cases q : T.lo ≤ (a : Int) ∧ (a : Int) ≤ T.hi
    · rw [List.filter_cons_of_pos (by simp only [Bool.and_eq_true, decide_eq_true_eq]; exact q), List.map_cons, List.sum_cons, below_12 o1 o2 (by omega) (by omega)]
      omega
    · rw [List.filter_cons_of_neg (by simp only [Bool.and_eq_true, decide_eq_true_eq]; exact q), below_same o2 (t := t) (u := t + 12) (by omega) (by omega)]
      omega
theorem wb_cyc {cols : List Tn} {a b : Nat} (ok : ∀ T ∈ cols, RsOk T.rs ∧ 0 ≤ T.lo) (st : Still cols a b) : ∀ q : Nat, a + 12 * q ≤ b → wb cols (a + 12 * q) = wb cols a + q * perC cols a
  | 0, _ => by simp
  | q + 1, h => by
    have ih := wb_cyc ok st q (by omega)
    have e : a + 12 * (q + 1) = a + 12 * q + 12 := by omega
    rw [e, wb_12 ok st (by omega) (by omega), ih, Nat.add_mul]
    omega
/-- whole cycles may be passed at once -/
theorem jump {cols : List Tn} {a b num : Nat} (ok : ∀ T ∈ cols, RsOk T.rs ∧ 0 ≤ T.lo) (st : Still cols a b) (ab : a ≤ b) (h1 : wb cols a ≤ num) (h2 : num < wb cols b) :
    0 < perC cols a ∧ a + 12 * ((num - wb cols a) / perC cols a) ≤ b ∧ num - wb cols (a + 12 * ((num - wb cols a) / perC cols a)) = (num - wb cols a) % perC cols a ∧ wb cols (a + 12 * ((num - wb cols a) / perC cols a)) ≤ num := by
  -- all of b - a turns lie in so many cycles
  have top : ∀ q : Nat, a + 12 * q ≤ b → wb cols (a + 12 * q) = wb cols a + q * perC cols a := wb_cyc ok st
  have last : wb cols b ≤ wb cols a + ((b - a) / 12 + 1) * perC cols a := by
    have e1 := top ((b - a) / 12) (by omega)
    -- the last, broken cycle is no more than a whole one
    have e2 : wb cols b ≤ wb cols (a + 12 * ((b - a) / 12)) + perC cols a := by
      unfold wb perC live
      clear e1 top h1 h2
      induction cols with
      | nil => exact Nat.le_refl _
      | cons T cols ih =>
        have ih := ih (fun T hT => ok T (List.mem_cons_of_mem _ hT)) fun T hT => st T (List.mem_cons_of_mem _ hT)
        obtain ⟨o1, o2⟩ := ok T List.mem_cons_self
        obtain ⟨s1, s2⟩ := st T List.mem_cons_self
        rw [List.map_cons, List.map_cons, List.sum_cons, List.sum_cons]
        by_cases q : T.lo ≤ (a : Int) ∧ (a : Int) ≤ T.hi
        · rw [List.filter_cons_of_pos (by simp only [Bool.and_eq_true, decide_eq_true_eq]; exact q), List.map_cons, List.sum_cons]
          have e3 : T.below (b : Int) ≤ T.below ((a + 12 * ((b - a) / 12) : Nat) : Int) + T.rs.length := by
            rw [← below_is o2 b, ← below_is o2]
            obtain ⟨k, hk⟩ : ∃ k, k = (min ((a + 12 * ((b - a) / 12) : Nat) : Int) (T.hi + 1) - T.lo).toNat := ⟨_, rfl⟩
            obtain ⟨m, hm⟩ : ∃ m, m = (min (b : Int) (T.hi + 1) - T.lo).toNat := ⟨_, rfl⟩
            rw [← hk, ← hm, ← cntT_12 o1]
            have le : m ≤ k + 12 := by omega
            exact cnt_mono le
          omega
        · rw [List.filter_cons_of_neg (by simp only [Bool.and_eq_true, decide_eq_true_eq]; exact q), below_same o2 (t := a + 12 * ((b - a) / 12)) (u := b) (by omega) (by omega)]
          omega
    rw [Nat.add_mul]
    omega
  have pos : 0 < perC cols a := by
    rcases Nat.eq_zero_or_pos (perC cols a) with z | z
    · rw [z] at last
      omega
    · exact z
  have lt : (num - wb cols a) / perC cols a < (b - a) / 12 + 1 := by
    refine Nat.div_lt_of_lt_mul ?_
    rw [Nat.mul_comm]
    omega
  have fit : a + 12 * ((num - wb cols a) / perC cols a) ≤ b := by omega
  have e := top _ fit
  have dm := Nat.div_add_mod (num - wb cols a) (perC cols a)
  rw [Nat.mul_comm] at dm
  exact ⟨pos, fit, by rw [e]; omega, by rw [e]; omega⟩
theorem least_in {p : Int → Prop} : ∀ {l : List Int}, (∃ x ∈ l, p x) → ∃ b ∈ l, p b ∧ ∀ y ∈ l, p y → b ≤ y
  | [], h => by
    obtain ⟨x, hx, _⟩ := h
    exact absurd hx List.not_mem_nil
  | z :: l, h => by
    by_cases q : ∃ x ∈ l, p x
    · obtain ⟨b, hb, pb, least⟩ := least_in q
      by_cases pz : p z ∧ z ≤ b
      · refine ⟨z, List.mem_cons_self, pz.1, fun y hy py => ?_⟩
        rcases List.mem_cons.mp hy with rfl | hy
        · exact Int.le_refl _
        · exact Int.le_trans pz.2 (least y hy py)
      · refine ⟨b, List.mem_cons_of_mem _ hb, pb, fun y hy py => ?_⟩
        rcases List.mem_cons.mp hy with rfl | hy
        · by_cases r : y ≤ b
          · exact absurd ⟨py, r⟩ pz
          · omega
        · exact least y hy py
    · obtain ⟨x, hx, px⟩ := h
      rcases List.mem_cons.mp hx with rfl | hx
      · refine ⟨x, List.mem_cons_self, px, fun y hy py => ?_⟩
        rcases List.mem_cons.mp hy with rfl | hy
        · exact Int.le_refl _
        · exact absurd ⟨y, hy, py⟩ q
      · exact absurd ⟨x, hx, px⟩ q
/-- the marks: 0, where a column begins, where it has ended -/
def marks (cols : List Tn) : List Int := [0] ++ cols.map (·.lo) ++ cols.map (·.hi + 1)
/-- from the greatest mark that has no more works below it than told to the next mark nothing begins or ends -/
theorem mark_pick {cols : List Tn} {ms : List Int} {num : Nat} {a : Int} (all : ∀ m ∈ marks cols, m ∈ ms) (ha : 0 ≤ a) (hw : wb cols a.toNat ≤ num) (top : ∀ m ∈ ms, wb cols m.toNat ≤ num → m ≤ a)
    (ex : ∃ m ∈ ms, num < wb cols m.toNat) : ∃ b : Int, a < b ∧ num < wb cols b.toNat ∧ Still cols a.toNat b.toNat := by
  obtain ⟨M, hM, lt⟩ := ex
  have aM : a < M := by
    by_cases q : a < M
    · exact q
    · have := wb_mono (cols := cols) (a := M.toNat) (b := a.toNat) (by omega)
      omega
  obtain ⟨b, hb, pb, least⟩ := least_in (p := fun x => a < x) ⟨M, hM, aM⟩
  refine ⟨b, pb, ?_, fun T hT => ?_⟩
  · by_cases q : wb cols b.toNat ≤ num
    · have := top b hb q
      omega
    · omega
  · have m1 := all T.lo (by unfold marks; exact List.mem_append_left _ (List.mem_append_right _ (List.mem_map.mpr ⟨T, hT, rfl⟩)))
    have m2 := all (T.hi + 1) (by unfold marks; exact List.mem_append_right _ (List.mem_map.mpr ⟨T, hT, rfl⟩))
    refine ⟨?_, ?_⟩
    · by_cases q : a < T.lo
      · have := least _ m1 q
        omega
      · omega
    · by_cases q : a < T.hi + 1
      · have := least _ m2 q
        omega
      · omega
theorem most_in : ∀ {l : List Int}, l ≠ [] → ∃ b ∈ l, ∀ y ∈ l, y ≤ b
  | [], h => absurd rfl h
  | [z], _ => ⟨z, List.mem_cons_self, fun y hy => by rw [List.mem_singleton.mp hy]; exact Int.le_refl _⟩
  | z :: x :: l, _ => by
    obtain ⟨b, hb, most⟩ := most_in (l := x :: l) (List.cons_ne_nil _ _)
    by_cases q : z ≤ b
    · refine ⟨b, List.mem_cons_of_mem _ hb, fun y hy => ?_⟩
      rcases List.mem_cons.mp hy with rfl | hy
      · exact q
      · exact most y hy
    · refine ⟨z, List.mem_cons_self, fun y hy => ?_⟩
      rcases List.mem_cons.mp hy with rfl | hy
      · exact Int.le_refl _
      · have := most y hy
        omega
def allOf (cols : List Tn) : Nat := (cols.map fun T => T.below (T.hi + 1)).sum
theorem wb_all {cols : List Tn} (ok : ∀ T ∈ cols, 0 ≤ T.lo) {u : Nat} (h : ∀ T ∈ cols, T.hi + 1 ≤ (u : Int)) : wb cols u = allOf cols := by
  unfold wb allOf
  induction cols with
  | nil => rfl
  | cons T cols ih =>
    rw [List.map_cons, List.map_cons, List.sum_cons, List.sum_cons, ih (fun T hT => ok T (List.mem_cons_of_mem _ hT)) fun T hT => h T (List.mem_cons_of_mem _ hT)]
    have hT := h T List.mem_cons_self
    have o := ok T List.mem_cons_self
    by_cases q : 0 ≤ T.hi + 1
    · have e : T.hi + 1 = ((T.hi + 1).toNat : Int) := by omega
      rw [e, below_same o (t := (T.hi + 1).toNat) (u := u) (.inr (by omega)) (by omega)]
    · have e : T.below (T.hi + 1) = 0 := by
        unfold Tn.below
        rw [show (T.hi + 1).toNat = 0 by omega]
        rfl
      rw [e, below_same o (t := 0) (u := u) (.inr (by omega)) (Nat.zero_le _)]
      rfl
/-- one of the marks has all works below it -/
theorem wb_end {cols : List Tn} (ok : ∀ T ∈ cols, 0 ≤ T.lo) : ∃ m ∈ marks cols, wb cols m.toNat = allOf cols := by
  obtain ⟨b, hb, most⟩ := most_in (l := marks cols) (by unfold marks; simp)
  refine ⟨b, hb, wb_all ok fun T hT => ?_⟩
  have := most (T.hi + 1) (by unfold marks; exact List.mem_append_right _ (List.mem_map.mpr ⟨T, hT, rfl⟩))
  omega
end Z
set_option maxHeartbeats 4000000
namespace Z
open PySem PySem.Spec PyProof.Rows L2
mutual
inductive DT (H : Hp) : V → PyData → Prop
  | non : DT H .non .none
  | bl (b : Bool) : DT H (.bl b) (.bool b)
  | int (i : Int) : DT H (.int i) (.int i)
  | str (x : Str) : DT H (.str x) (.str x)
  | tup {a : Addr} {xs : List V} {ds : List PyData} : H a = some (.tup xs) → DTs H xs ds → DT H (.ref a) (.tuple ds)
inductive DTs (H : Hp) : List V → List PyData → Prop
  | nil : DTs H [] []
  | cons {v : V} {vs : List V} {d : PyData} {ds : List PyData} : DT H v d → DTs H vs ds → DTs H (v :: vs) (d :: ds)
end
/-- tuples stand -/
def TSame (H H' : Hp) : Prop := ∀ a xs, H a = some (.tup xs) → H' a = some (.tup xs)
section
variable {H H1 H2 H' : Hp} {D p : Addr} {o u : HO}
theorem TSame.refl (H : Hp) : TSame H H := fun _ _ e => e
theorem TSame.trans (a : TSame H H1) (b : TSame H1 H2) : TSame H H2 := fun c xs e => b c xs (a c xs e)
theorem TSame.of (s : Same H H') : TSame H H' := fun a xs e => s a _ e
theorem TSame.keepO (e : H p = some o) (n : ∀ xs, o ≠ .tup xs) (k : Keep p H H') : TSame H H' := fun a xs ea => k a _ (fun z => by
  rw [z, e] at ea
  exact n xs (Option.some.inj ea)) ea
theorem TSame.updO (e : H D = some o) (n : ∀ xs, o ≠ .tup xs) : TSame H (upd H D u) := TSame.keepO e n fun b w nb eb => by
  rw [upd_ne nb]
  exact eb
theorem TSame.updL {xs : List V} (e : H D = some (.lst xs)) : TSame H (upd H D u) := TSame.updO e fun _ z => by cases z
theorem TSame.new (n : H D = none) : TSame H (upd H D u) := TSame.of (Same.new _ (Same.refl H) n)
end
mutual
theorem DT.mono {H H' : Hp} (s : TSame H H') : ∀ (d : PyData) {v : V}, DT H v d → DT H' v d
  | .none, _, h => by cases h; exact .non
  | .bool b, _, h => by cases h; exact .bl b
  | .int i, _, h => by cases h; exact .int i
  | .str x, _, h => by cases h; exact .str x
  | .list ds, _, h => by cases h
  | .tuple ds, _, h => by
    cases h with
    | tup e r => exact .tup (s _ _ e) (DTs.mono s ds r)
  | .dict _, _, h => by cases h
theorem DTs.mono {H H' : Hp} (s : TSame H H') : ∀ (ds : List PyData) {vs : List V}, DTs H vs ds → DTs H' vs ds
  | [], _, h => by cases h; exact .nil
  | d :: ds, _, h => by
    cases h with
    | cons a b => exact .cons (DT.mono s d a) (DTs.mono s ds b)
end
mutual
theorem DT.dp {K : PySem.W.Frag} {H : Hp} : ∀ (d : PyData) {v : V}, DT H v d → Dp K H v d
  | .none, _, h => by cases h; exact .non
  | .bool b, _, h => by cases h; exact .bl b
  | .int i, _, h => by cases h; exact .int i
  | .str x, _, h => by cases h; exact .str x
  | .list ds, _, h => by cases h
  | .tuple ds, _, h => by
    cases h with
    | tup e r => exact .tup (SqT.of e) (DTs.dp ds r)
  | .dict _, _, h => by cases h
theorem DTs.dp {K : PySem.W.Frag} {H : Hp} : ∀ (ds : List PyData) {vs : List V}, DTs H vs ds → DpAll K H vs ds
  | [], _, h => by cases h; exact .nil
  | d :: ds, _, h => by
    cases h with
    | cons a b => exact .cons (DT.dp d a) (DTs.dp ds b)
end
section
variable {H H' : Hp} {v : V} {vs : List V}
theorem DT.to {d : PyData} (h : DT H v d) (s : TSame H H') : DT H' v d := DT.mono s d h
theorem DTs.to {ds : List PyData} (h : DTs H vs ds) (s : TSame H H') : DTs H' vs ds := DTs.mono s ds h
theorem DT.same {d : PyData} (h : DT H v d) (s : Same H H') (_ : PyData := .none) : DT H' v d := h.to (.of s)
theorem DTs.len : ∀ {ds : List PyData} {vs : List V}, DTs H vs ds → vs.length = ds.length
  | [], _, h => by cases h; rfl
  | d :: ds, _, h => by
    cases h with
    | cons a b => rw [List.length_cons, List.length_cons, DTs.len b]
theorem DTs.get : ∀ {ds : List PyData} {ws : List V} (i : Nat) (d : PyData), DTs H ws ds → ds[i]? = some d → ∃ v, ws[i]? = some v ∧ DT H v d
  | [], _, _, _, _, e => by cases e
  | _ :: _, _, 0, d', h, e => by
    cases h with
    | cons a b =>
      cases (Option.some.inj e)
      exact ⟨_, rfl, a⟩
  | _ :: ds, _, i + 1, d', h, e => by
    cases h with
    | cons a b => exact DTs.get i d' b (show ds[i]? = some d' from e)
theorem DTs.get' {ds : List PyData} {ws : List V} {i : Nat} {v : V} (h : DTs H ws ds) (e : ws[i]? = some v) : ∃ d, ds[i]? = some d ∧ DT H v d := by
  have hi : i < ds.length := by
    rw [← h.len]
    exact (List.getElem?_eq_some_iff.mp e).1
  obtain ⟨u, e2, k⟩ := DTs.get i _ h (List.getElem?_eq_getElem hi)
  rw [e] at e2
  cases e2
  exact ⟨_, List.getElem?_eq_getElem hi, k⟩
/-- the items are made from a list -/
theorem DTs.map' {α : Type} {f : α → PyData} {as : List α} {ws : List V} {i : Nat} {v : V} (h : DTs H ws (as.map f)) (e : ws[i]? = some v) : ∃ a, as[i]? = some a ∧ DT H v (f a) := by
  obtain ⟨d, hd, k⟩ := h.get' e
  rw [List.getElem?_map] at hd
  obtain ⟨a, ha, rfl⟩ := Option.map_eq_some_iff.mp hd
  exact ⟨a, ha, k⟩
theorem DTs.app : ∀ {ds es : List PyData} {vs ws : List V}, DTs H vs ds → DTs H ws es → DTs H (vs ++ ws) (ds ++ es)
  | [], _, _, _, h, k => by cases h; exact k
  | d :: ds, _, _, _, h, k => by
    cases h with
    | cons a b => exact .cons a (DTs.app b k)
theorem DTs.one {d : PyData} (h : DT H v d) : DTs H [v] [d] := .cons h .nil
theorem DTs.snoc {α : Type} {f : α → PyData} {as : List α} {a : α} (h : DTs H vs (as.map f)) (k : DT H v (f a)) : DTs H (vs ++ [v]) ((as ++ [a]).map f) := by
  rw [List.map_append]
  exact h.app (.one k)
theorem DTs.ints : ∀ ns : List Int, DTs H (ns.map V.int) (ns.map PyData.int)
  | [] => .nil
  | n :: ns => .cons (.int n) (DTs.ints ns)
theorem DT.tup' {ds : List PyData} (h : DT H v (.tuple ds)) : ∃ a xs, v = .ref a ∧ H a = some (.tup xs) ∧ DTs H xs ds := by
  cases h with
  | tup e r => exact ⟨_, _, rfl, e, r⟩
end
def imm : HO → Bool
  | .tup _ => true
  | .ins _ _ _ => true
  | .frz _ (.tup _) => true
  | _ => false
def MS (H H' : Hp) : Prop := ∀ a u, H a = some u → imm u = true → H' a = some u
section
variable {H H1 H2 H' : Hp} {D p : Addr} {o u : HO}
theorem MS.refl (H : Hp) : MS H H := fun _ _ e _ => e
theorem MS.trans (a : MS H H1) (b : MS H1 H2) : MS H H2 := fun c u e i => b c u (a c u e i) i
theorem MS.of (s : Same H H') : MS H H' := fun a u e _ => s a u e
theorem MS.keepO (e : H p = some o) (n : imm o = false) (k : Keep p H H') : MS H H' := fun a w ea i => k a w (fun z => by
  rw [z, e] at ea
  cases ea
  rw [n] at i
  cases i) ea
theorem MS.updO (e : H D = some o) (n : imm o = false) : MS H (upd H D u) := MS.keepO e n fun b w nb eb => by
  rw [upd_ne nb]
  exact eb
theorem MS.updL {xs : List V} (e : H D = some (.lst xs)) : MS H (upd H D u) := MS.updO e rfl
theorem MS.new (n : H D = none) : MS H (upd H D u) := MS.of (Same.new _ (Same.refl H) n)
theorem MS.sqT {K : PySem.W.Frag} {a : Addr} {xs : List V} (s : MS H H') (h : SqT K H a xs) : SqT K H' a xs := h.imp (fun r => r.imp (fun e => s _ _ e rfl) fun ⟨o, e⟩ => ⟨o, s _ _ e rfl⟩) id
end
theorem dt3 {H : Hp} {t : Addr} {a b c : Int} (h : H t = some (.tup [.int a, .int b, .int c])) : DT H (.ref t) (.tuple [.int a, .int b, .int c]) := .tup h (.cons (.int _) (.cons (.int _) (.cons (.int _) .nil)))
theorem dt3' {H : Hp} {v : V} {a b c : Int} (h : DT H v (.tuple [.int a, .int b, .int c])) : ∃ t, v = .ref t ∧ H t = some (.tup [.int a, .int b, .int c]) := by
  cases h with
  | tup e r =>
    cases r with
    | cons r1 r =>
      cases r with
      | cons r2 r =>
        cases r with
        | cons r3 r =>
          cases r
          cases r1
          cases r2
          cases r3
          exact ⟨_, rfl, e⟩
end Z
set_option maxHeartbeats 4000000
namespace Z
open PySem PySem.Spec PyProof.Rows L2
open Sem (wp)
open AutoSeq1 (wpAny_loadPart')
/-- how the two stand ahead of turn i -/
def EnAt (a e it : Addr) (i : Nat) (h : Heap) : Prop := (∃ old, IsEnum h e it (i : Int) old) ∧ h.IsTupleIter it a i ∧ e ≠ it
section
variable {a e it : Addr} {i : Nat} {h h' : Heap}
theorem EnAt.objs (z : EnAt a e it i h) : (∃ o, h.get? e = some o ∧ ∀ v, o.data ≠ .cell v) ∧ ∃ o, h.get? it = some o ∧ ∀ v, o.data ≠ .cell v := by
  obtain ⟨⟨old, z1⟩, ⟨o, z2, _, z3⟩, _⟩ := z
  exact ⟨⟨_, z1, fun v y => Data.noConfusion y⟩, o, z2, fun v y => Data.noConfusion (z3.symm.trans y)⟩
end
end Z
set_option maxHeartbeats 4000000
namespace Z
open PySem PySem.Spec PyProof.Rows L2
/-- the numbers of the walk that are not below 0 -/
def walk (lo c : Int) (i : Nat) : List Int := ((List.range i).map fun (j : Nat) => lo + (j : Int) * c).filter fun x => decide (0 ≤ x)
end Z
namespace Z
open PySem PySem.Spec PyProof.Rows L2
end Z
set_option maxHeartbeats 4000000
namespace K35
open PySem PySem.Spec PyProof.Rows L2 Z
theorem at0 {x : V} {l : List V} : atI (x :: l) 0 = some x := atI_nat (xs := x :: l) (j := 0) rfl
theorem at1 {x y : V} {l : List V} : atI (x :: y :: l) 1 = some y := atI_nat (xs := x :: y :: l) (j := 1) rfl
theorem at2 {x y z : V} {l : List V} : atI (x :: y :: z :: l) 2 = some z := atI_nat (xs := x :: y :: z :: l) (j := 2) rfl
theorem at3 {x y z u : V} {l : List V} : atI (x :: y :: z :: u :: l) 3 = some u := atI_nat (xs := x :: y :: z :: u :: l) (j := 3) rfl
theorem at4 {x y z u t : V} {l : List V} : atI (x :: y :: z :: u :: t :: l) 4 = some t := atI_nat (xs := x :: y :: z :: u :: t :: l) (j := 4) rfl
theorem sz1 : 1 ≤ sizeLine := by show 1 ≤ sizeLine; decide
theorem sz2 : 2 ≤ sizeLine := by show 2 ≤ sizeLine; decide
theorem sz3 : 3 ≤ sizeLine := by show 3 ≤ sizeLine; decide
theorem sum_ones : ∀ n : Nat, (List.replicate n (1 : Int)).sum = (n : Int)
  | 0 => rfl
  | n + 1 => by
    rw [List.replicate_succ, List.sum_cons, sum_ones n]
    omega
theorem sz1m (n : Nat) (h : n < 1000000) : n < sizeLine := by
  rw [sizeLine_eq]
  omega
theorem flat_ints (rs : List Int) : (rs.map V.int).all flatV = true := by
  rw [List.all_map, List.all_eq_true]
  exact fun _ _ => rfl
theorem inV_ints {i : Int} : ∀ {rs : List Int}, inV (.int i) (rs.map V.int) = decide (i ∈ rs)
  | [] => rfl
  | r :: rs => by
    have ih := inV_ints (i := i) (rs := rs)
    unfold inV at ih ⊢
    have e2 : eqV (V.int r) (V.int i) = (r == i) := rfl
    rw [List.map_cons, List.any_cons, ih, e2]
    by_cases e : i = r
    · subst e
      simp
    · have e3 : ¬ r = i := fun z => e z.symm
      simp [e, e3]
/-- the built-in names that the functions of turns ask -/
structure Nb (mg : Str → Option Value) : Prop extends Bt mg where
  max : mg "max" = none
  min : mg "min" = none
  sum : mg "sum" = none
  divmod : mg "divmod" = none
  sorted : mg "sorted" = none
  set : mg "set" = none
  enumerate : mg "enumerate" = none
  range : mg "range" = none
  tuple : mg "tuple" = none
def tnV (T : Tn) (r : Addr) : List V := [.int T.lo, .int T.hi, .ref r]
/-- the turns T stand at the tuple t -/
def TnAt (H : Hp) (t : Addr) (T : Tn) : Prop := ∃ r, H t = some (.tup (tnV T r)) ∧ H r = some (.tup (T.rs.map V.int))
theorem TnAt.same {H H' : Hp} {t : Addr} {T : Tn} (h : TnAt H t T) (s : Same H H') : TnAt H' t T := by
  obtain ⟨r, h1, h2⟩ := h
  exact ⟨r, s _ _ h1, s _ _ h2⟩
def spNarrow : Sp := fun vs H Q _ => ∃ lo hi x g : Int, vs = [.int lo, .int hi, .int x, .int g] ∧ g.natAbs < 1073741824 ∧ ∀ t H', Same H H' → H' t = some (.tup [.int (narrowL lo hi x g).1, .int (narrowL lo hi x g).2]) → Q (.ref t) H'
def spDoneIn : Sp := fun vs H Q _ => ∃ (t : Addr) (T : Tn) (i : Int), vs = [.ref t, .int i] ∧ TnAt H t T ∧ Q (.bl (T.has i)) H
def spBefore : Sp := fun vs H Q _ => ∃ (t : Addr) (T : Tn) (i : Int), vs = [.ref t, .int i] ∧ TnAt H t T ∧ T.rs.length ≤ 12 ∧ ∀ H', Same H H' → Q (.int (mBefore T i)) H'
section
variable {P : Program} {w : World} {K : PySem.W.Frag} {mg : Str → Option Value} {base : Heap}
theorem sc_narrowed : FnScope ["low", "high", "start", "growth"] ["low", "high", "start", "growth"] (defScope s_narrowed) := ⟨rfl, rfl, rfl, by decide +kernel, rfl, by decide +kernel, by decide +kernel⟩
theorem ok_narrowed {f : Addr} {fd : FuncData} (F : FnP K "narrowed" s_narrowed f fd) (T : Nb mg) : FnOk P w K mg base CX0 1 f fd ["low", "high", "start", "growth"] spNarrow := by
  refine F.ok sc_narrowed (fun vs H Q E h => ?_) (fun cdv A outer s H vs Q E hr h => ?_)
  · obtain ⟨lo, hi, x, g, rfl, _⟩ := h
    rfl
  · obtain ⟨lo, hi, x, g, rfl, hg, k⟩ := h
    refine ⟨_, PSs.nox (pss_cons (ps_if (pt_cmpR op_gt (pv 3) pe_int (nomark _)) (pss_one (ps_ret (pe_tup (pa_cons (pe_callB (call_max2 rfl) (by rfl) T.max (by decide +kernel) (pa_cons (pv 0) (pa_cons (pe_un un_neg (pe_op op_fdivN (pv 2) (pv 3))) pa_nil))) (pa_cons (pv 1) pa_nil))))) pss_nil)
      (pss_cons (ps_if (pt_cmpR op_lt (pv 3) pe_int (nomark _)) (pss_one (ps_ret (pe_tup (pa_cons (pv 0) (pa_cons (pe_callB (call_min2 rfl) (by rfl) T.min (by decide +kernel) (pa_cons (pv 1) (pa_cons (pe_op op_fdivN (pv 2) (pe_un un_neg (pv 3))) pa_nil))) pa_nil))))) pss_nil)
      (pss_one (ps_ret (pe_ifExp (pt_cmpR op_ge (pv 2) pe_int (nomark _)) (pe_tup (pa_cons (pv 0) (pa_cons (pv 1) pa_nil))) (pe_tup (pa_cons pe_int (pa_cons (pe_un un_neg pe_int) pa_nil)))))))), ?_⟩
    have fin : ∀ a b : Int, (a, b) = narrowL lo hi x g → ∀ t, H t = none → Q (.ref t) (upd H t (.tup [.int a, .int b])) := fun a b e t ht => by
      refine k t _ (Same.new _ (Same.refl H) ht) ?_
      rw [← e]
      exact upd_same
    refine ⟨_, rfl, _, _, rfl, rfl, _, rfl, ite2 (fun h1 => ?_) (fun h1 => ?_)⟩
    · have h1 : 0 < g := of_decide_eq_true h1
      refine ⟨_, rfl, _, rfl, _, rfl, _, _, rfl, rfl, ⟨by omega, hg⟩, _, rfl, _, _, rfl, _, rfl, sz2, fun t ht => fin _ _ ?_ t ht⟩
      unfold narrowL
      rw [if_pos h1]
      refine Prod.ext ?_ rfl
      dsimp only
      split <;> omega
    · have h1 : ¬ 0 < g := fun z => h1 (decide_eq_true z)
      refine ⟨_, rfl, _, _, rfl, rfl, _, rfl, ite2 (fun h2 => ?_) (fun h2 => ?_)⟩
      · have h2 : g < 0 := of_decide_eq_true h2
        refine ⟨_, rfl, _, rfl, _, rfl, _, rfl, _, rfl, _, _, rfl, rfl, ⟨by omega, by omega⟩, _, _, rfl, sz2, fun t ht => fin _ _ ?_ t ht⟩
        unfold narrowL
        rw [if_neg h1, if_pos h2]
        refine Prod.ext rfl ?_
        dsimp only
        split <;> omega
      · have h2 : ¬ g < 0 := fun z => h2 (decide_eq_true z)
        refine ⟨_, rfl, _, _, rfl, rfl, _, rfl, ite2 (fun h3 => ?_) (fun h3 => ?_)⟩
        · have h3 : 0 ≤ x := of_decide_eq_true h3
          refine ⟨_, rfl, _, rfl, sz2, fun t ht => fin _ _ ?_ t ht⟩
          unfold narrowL
          rw [if_neg h1, if_neg h2, if_pos h3]
        · have h3 : ¬ 0 ≤ x := fun z => h3 (decide_eq_true z)
          refine ⟨_, rfl, sz2, fun t ht => fin _ _ ?_ t ht⟩
          unfold narrowL
          rw [if_neg h1, if_neg h2, if_neg h3]
theorem sc_is_done_in : FnScope ["turns", "turn", "low", "high", "rests"] ["turns", "turn"] (defScope s_is_done_in) := ⟨rfl, rfl, rfl, by decide +kernel, rfl, by decide +kernel, by decide +kernel⟩
theorem ok_doneIn {f : Addr} {fd : FuncData} (F : FnP K "is_done_in" s_is_done_in f fd) (hCYCLE : ∃ t, mg "CYCLE" = some (.int 12 t)) : FnOk P w K mg base CX0 1 f fd ["turns", "turn"] spDoneIn := by
  refine F.ok sc_is_done_in (fun vs H Q E h => ?_) (fun cdv A outer s H vs Q E hr h => ?_)
  · obtain ⟨t, U, i, rfl, _⟩ := h
    rfl
  · obtain ⟨t, U, i, rfl, ⟨r, ht, hr2⟩, k⟩ := h
    obtain ⟨tCYCLE, hCYCLE⟩ := hCYCLE
    refine ⟨_, PSs.nox (pss_cons (ps_asg (pv 0) (pg_tup (by rfl) (pgs_cons (pg_name (i := 2) sc_is_done_in.nd rfl (.inl rfl)) (pgs_cons (pg_name (i := 3) sc_is_done_in.nd rfl (.inl rfl)) (pgs_cons (pg_name (i := 4) sc_is_done_in.nd rfl (.inl rfl)) pgs_nil)))))
      (pss_one (ps_ret (pe_and (pe_chain op_le op_le (pv 2) (pv 1) (pv 3)) (pe_one (pe_cmpR op_in_seq (pe_op op_modN (pv 1) (pe_glob (v := .int 12) rfl hCYCLE ⟨tCYCLE, rfl⟩)) (pv 4) (by with_unfolding_all rfl))))))), ?_⟩
    refine ⟨_, rfl, t, _, rfl, SqT.of ht, rfl, _, _, rfl, _, _, rfl, _, _, rfl, rfl, ?_⟩
    refine norm (N := fun σ _ => _) (σ' := [some (.ref t), some (.int i), some (.int U.lo), some (.int U.hi), some (.ref r)]) rfl ?_
    dsimp only
    have fin : ∀ b : Bool, b = U.has i → Q (.bl b) H := fun b e => e ▸ k
    refine ⟨_, rfl, _, rfl, _, _, rfl, rfl, _, rfl, ite2 (fun h1 => ?_) (fun h1 => ?_)⟩
    · have h1 : U.lo ≤ i := of_decide_eq_true h1
      refine ⟨_, rfl, _, _, rfl, rfl, _, rfl, ite2 (fun h2 => ?_) (fun h2 => ?_)⟩
      · have h2 : i ≤ U.hi := of_decide_eq_true h2
        refine ⟨_, rfl, _, _, rfl, rfl, (by show (12 : Int) ≠ 0; decide), _, rfl, r, _, rfl, .inr (SqT.of hr2), rfl, flat_ints _, fin _ ?_⟩
        show inV (.int (i.fmod 12)) (U.rs.map V.int) = U.has i
        rw [inV_ints, fmod12]
        unfold Tn.has
        rw [decide_eq_true h1, decide_eq_true h2]
        rfl
      · refine fin _ ?_
        cases e : U.has i with
        | false => rfl
        | true => exact absurd (decide_eq_true (Tn.has_iff.mp e).2.1) h2
    · refine ⟨_, rfl, if_no rfl (fin _ ?_)⟩
      cases e : U.has i with
      | false => rfl
      | true => exact absurd (decide_eq_true (Tn.has_iff.mp e).1) h1
theorem sc_many_before : FnScope ["turns", "turn", "low", "high", "rests", "whole", "part", "rest"] ["turns", "turn"] (defScope s_many_before) := ⟨rfl, rfl, rfl, by decide +kernel, rfl, by decide +kernel, by decide +kernel⟩
theorem ok_before {f : Addr} {fd : FuncData} (F : FnP K "many_before" s_many_before f fd) (T : Nb mg) (hCYCLE : ∃ t, mg "CYCLE" = some (.int 12 t)) : FnOk P w K mg base CX0 1 f fd ["turns", "turn"] spBefore := by
  refine F.ok sc_many_before (fun vs H Q E h => ?_) (fun cdv A outer s H vs Q E hr h => ?_)
  · obtain ⟨t, U, i, rfl, _⟩ := h
    rfl
  · obtain ⟨t, U, i, rfl, ⟨r, ht, hr2⟩, hl12, k⟩ := h
    obtain ⟨tCYCLE, hCYCLE⟩ := hCYCLE
    refine ⟨_, PSs.nox (pss_cons (ps_asg (pv 0) (pg_tup (by rfl) (pgs_cons (pg_name (i := 2) sc_many_before.nd rfl (.inr rfl)) (pgs_cons (pg_name (i := 3) sc_many_before.nd rfl (.inl rfl)) (pgs_cons (pg_name (i := 4) sc_many_before.nd rfl (.inl rfl)) pgs_nil)))))
      (pss_cons (ps_asg (pe_callB call_divmod (by rfl) T.divmod (by decide +kernel) (pa_cons (pe_op op_sub (pe_callB (call_min2 rfl) (by rfl) T.min (by decide +kernel) (pa_cons (pv 1) (pa_cons (pe_op op_add (pv 3) pe_int) pa_nil))) (pv 2)) (pa_cons (pe_glob (v := .int 12) rfl hCYCLE ⟨tCYCLE, rfl⟩) pa_nil))) (pg_tup (by rfl) (pgs_cons (pg_name (i := 5) sc_many_before.nd rfl (.inl rfl)) (pgs_cons (pg_name (i := 6) sc_many_before.nd rfl (.inr rfl)) pgs_nil))))
      (pss_cons (ps_if (pt_cmpR op_lt (pv 5) pe_int (nomark _)) (pss_one (ps_ret pe_int)) pss_nil)
      (pss_one (ps_ret (pe_op op_add (pe_op op_mul (pv 5) (pe_callB call_len_seq (by rfl) T.len PySem.boot_len (pa_cons (pv 4) pa_nil))) (pe_callB (cr_sum rfl) (by rfl) T.sum (by decide +kernel) (pa_cons (pe_lc (own := [("rest", 7)]) (g := gName 7) rfl sc_many_before.nd (pi_tup (pv 4)) (blkOk_by (N := ["turns", "turn", "low", "high", "rests", "whole", "part", "rest"]) (sc := defScope s_many_before) (by decide +kernel)) (fun _ _ _ _ _ => (pg_name (i := 7) sc_many_before.nd rfl (.inl rfl))) (fun _ _ _ _ _ => (pts_one (pt_cmpR op_lt (pe_op op_modN (pe_op op_sub (pv 7) (pv 2)) (pe_glob (v := .int 12) rfl hCYCLE ⟨tCYCLE, rfl⟩)) (pv 6) (nomark _)))) (fun _ _ _ _ _ => pe_int)) pa_nil)))))))), ?_⟩
    refine ⟨_, rfl, t, _, rfl, SqT.of ht, rfl, _, _, rfl, _, _, rfl, _, _, rfl, rfl, ?_⟩
    refine norm (N := fun σ _ => _) (σ' := [some (.ref t), some (.int i), some (.int U.lo), some (.int U.hi), some (.ref r), none, none, none]) rfl ?_
    dsimp only
    refine ⟨_, rfl, _, rfl, _, _, rfl, rfl, _, _, rfl, _, rfl, _, _, rfl, rfl, _, _, rfl, ⟨by decide, by decide⟩, fun t2 ht2 => ?_⟩
    obtain ⟨q, hq⟩ : ∃ q : Int, q = min i (U.hi + 1) - U.lo := ⟨_, rfl⟩
    have eq1 : (if U.hi + 1 < i then U.hi + 1 else i) - U.lo = q := by
      rw [hq]
      split <;> omega
    rw [eq1] at *
    have s2 := Same.new (.tup [.int (q / 12), .int (q % 12)]) (Same.refl H) ht2
    refine ⟨t2, _, rfl, SqT.of upd_same, rfl, _, _, rfl, _, _, rfl, rfl, ?_⟩
    refine norm (N := fun σ _ => _) (σ' := [some (.ref t), some (.int i), some (.int U.lo), some (.int U.hi), some (.ref r), some (.int (q / 12)), some (.int (q % 12)), none]) rfl ?_
    dsimp only
    refine ⟨_, rfl, _, _, rfl, rfl, _, rfl, ite2 (fun h1 => ?_) (fun h1 => ?_)⟩
    · have h1 : q / 12 < 0 := of_decide_eq_true h1
      have e : mBefore U i = 0 := by
        unfold mBefore
        rw [fdiv12, ← hq, if_pos h1]
      rw [e] at k
      exact k _ s2
    · have h1 : ¬ q / 12 < 0 := fun z => h1 (decide_eq_true z)
      have e : mBefore U i = q / 12 * (U.rs.length : Int) + (few U.rs U.lo (q % 12) : Int) := by
        unfold mBefore
        rw [fdiv12, fmod12, ← hq, if_neg h1]
      rw [e] at k
      have lr : (U.rs.map V.int).length = U.rs.length := List.length_map ..
      have hr3 := s2 _ _ hr2
      refine ⟨_, rfl, _, rfl, r, _, rfl, .inr (SqT.of hr3), _, _, rfl, rfl, .inr ⟨by omega, by omega⟩, ?_⟩
      obtain ⟨H2, eH2⟩ : ∃ X, X = upd H t2 (.tup [.int (q / 12), .int (q % 12)]) := ⟨_, rfl⟩
      rw [← eH2] at s2 hr3
      rw [← eH2]
      refine ⟨_, rfl, r, rfl, ⟨_, SqT.of hr3⟩, fun D hD => ?_⟩
      refine lc_tup (K := K) (xs := U.rs.map V.int) (fun b Hb => Hb D = some (.lst (List.replicate (few (U.rs.take b) U.lo (q % 12)) (.int 1))) ∧ Same H2 Hb) ⟨upd_same, Same.new _ (Same.refl H2) hD⟩ (fun b Hb _ z => SqT.of (z.2 _ _ hr3)) ?_ ?_
      · rintro b v Hb hv ⟨eD, sb⟩
        rw [List.getElem?_map] at hv
        obtain ⟨x, hx, rfl⟩ := Option.map_eq_some_iff.mp hv
        have hb : b < U.rs.length := (List.getElem?_eq_some_iff.mp hx).1
        have lim : few (U.rs.take b) U.lo (q % 12) ≤ b := by
          unfold few
          refine Nat.le_trans (List.length_filter_le _ _) ?_
          rw [List.length_take]
          omega
        have step : few (U.rs.take (b + 1)) U.lo (q % 12) = few (U.rs.take b) U.lo (q % 12) + if (x - U.lo) % 12 < q % 12 then 1 else 0 := by
          unfold few
          rw [List.take_add_one, hx, List.filter_append, List.length_append]
          congr 1
          by_cases z : (x - U.lo) % 12 < q % 12
          · rw [if_pos z]
            show ([x].filter _).length = 1
            rw [List.filter_cons_of_pos (by simpa using z)]
            rfl
          · rw [if_neg z]
            show ([x].filter _).length = 0
            rw [List.filter_cons_of_neg (by simpa using z)]
            rfl
        refine ⟨rfl, _, rfl, _, rfl, _, _, rfl, rfl, _, _, rfl, rfl, (by show (12 : Int) ≠ 0; decide), _, rfl, _, _, rfl, rfl, _, rfl, ?_⟩
        refine ite2 (fun z => ?_) (fun z => ?_)
        · have z : (x - U.lo) % 12 < q % 12 := by
            have := of_decide_eq_true z
            rw [fmod12] at this
            exact this
          rw [if_pos z] at step
          refine ⟨_, eD, sz1m _ (by rw [List.length_replicate]; omega), ?_, fun b' o e => ?_⟩
          · rw [upd_same, step, List.replicate_succ']
          · rw [upd_ne (ne_of_none e hD)]
            exact sb _ _ e
        · have z : ¬ (x - U.lo) % 12 < q % 12 := fun y => z (decide_eq_true (by rw [fmod12]; exact y))
          rw [if_neg z] at step
          rw [step]
          exact ⟨eD, sb⟩
      · rintro H3 ⟨eD, sb⟩
        rw [lr, List.take_length] at eD
        refine ⟨D, List.replicate (few U.rs U.lo (q % 12)) 1, rfl, SqL.of (by rw [List.map_replicate]; exact eD), _, _, rfl, rfl, ?_⟩
        rw [sum_ones, lr]
        exact k _ (s2.trans sb)
end
end K35
set_option maxHeartbeats 4000000
namespace K35
open PySem PySem.Spec PyProof.Rows L2 Z
def tnD (T : Tn) : PyData := .tuple [.int T.lo, .int T.hi, .tuple (T.rs.map PyData.int)]
theorem dts_ints {H : Hp} : ∀ {rs : List Int} {xs : List V}, DTs H xs (rs.map PyData.int) → xs = rs.map V.int
  | [], _, h => by cases h; rfl
  | r :: rs, _, h => by
    cases h with
    | cons a b =>
      cases a
      rw [dts_ints b]
      rfl
theorem dt_tn {H : Hp} {v : V} {T : Tn} (h : DT H v (tnD T)) : ∃ t, v = .ref t ∧ TnAt H t T := by
  obtain ⟨t, xs, rfl, h1, d⟩ := DT.tup' h
  cases d with
  | cons a d =>
    cases d with
    | cons b d =>
      cases d with
      | cons c d =>
        cases d
        cases a
        cases b
        obtain ⟨r, ys, rfl, h2, e⟩ := DT.tup' c
        rw [dts_ints e] at h2
        exact ⟨t, rfl, r, h1, h2⟩
def spManyOf : Sp := fun vs H Q _ => ∃ (t : Addr) (T : Tn), vs = [.ref t] ∧ TnAt H t T ∧ T.rs.length ≤ 12 ∧ ∀ H', Same H H' → Q (.int (mBefore T (T.hi + 1))) H'
/-- the columns of a loop stand in a list -/
def Cols (H : Hp) (l : Addr) (xs : List V) (cols : List Tn) : Prop := H l = some (.lst xs) ∧ DTs H xs (cols.map tnD) ∧ ∀ T ∈ cols, T.rs.length ≤ 12
def spWBelow : Sp := fun vs H Q _ => ∃ (l : Addr) (xs : List V) (cols : List Tn) (i : Int), vs = [.ref l, .int i] ∧ Cols H l xs cols ∧ cols.length ≤ 1000 ∧ ∀ H', Same H H' → Q (.int (cols.map fun T => mBefore T i).sum) H'
def spWIn : Sp := fun vs H Q _ => ∃ (l : Addr) (xs : List V) (cols : List Tn), vs = [.ref l] ∧ Cols H l xs cols ∧ cols.length ≤ 1000 ∧ ∀ H', Same H H' → Q (.int (cols.map fun T => mBefore T (T.hi + 1)).sum) H'
section
variable {P : Program} {w : World} {K : PySem.W.Frag} {mg : Str → Option Value} {base : Heap}
theorem sc_many_of : FnScope ["turns"] ["turns"] (defScope s_many_of) := ⟨rfl, rfl, rfl, by decide +kernel, rfl, by decide +kernel, by decide +kernel⟩
theorem ok_manyOf {f : Addr} {fd : FuncData} (F : FnP K "many_of" s_many_of f fd) (dBefore : Dn P w K mg base 1 "many_before" ["turns", "turn"] spBefore) : FnOk P w K mg base CX0 2 f fd ["turns"] spManyOf := by
  refine F.ok sc_many_of (fun vs H Q E h => ?_) (fun cdv A outer s H vs Q E hr h => ?_)
  · obtain ⟨t, T, rfl, _⟩ := h
    rfl
  · obtain ⟨t, U, rfl, hU, hl12, k⟩ := h
    refine ⟨_, PSs.nox (pss_one (ps_ret (pe_dn dBefore hr (pa_cons (pv 0) (pa_cons (pe_op op_add (pe_ix ix_tup (pv 0) pe_int (fun _ _ => rfl)) pe_int) pa_nil))))), ?_⟩
    obtain ⟨r, ht, hr2⟩ := id hU
    exact ⟨_, rfl, _, rfl, t, _, _, _, rfl, rfl, SqT.of ht, at1, _, _, rfl, rfl, t, U, _, rfl, hU, hl12, k⟩
theorem sc_works_before : FnScope ["columns", "turn", "turns"] ["columns", "turn"] (defScope s_works_before) := ⟨rfl, rfl, rfl, by decide +kernel, rfl, by decide +kernel, by decide +kernel⟩
theorem ok_wBelow {f : Addr} {fd : FuncData} (F : FnP K "works_before" s_works_before f fd) (T : Nb mg) (dBefore : Dn P w K mg base 1 "many_before" ["turns", "turn"] spBefore) : FnOk P w K mg base CX0 2 f fd ["columns", "turn"] spWBelow := by
  refine F.ok sc_works_before (fun vs H Q E h => ?_) (fun cdv A outer s H vs Q E hr h => ?_)
  · obtain ⟨l, xs, cols, i, rfl, _⟩ := h
    rfl
  · obtain ⟨l, xs, cols, i, rfl, ⟨hl, dl, l12⟩, lc, k⟩ := h
    refine ⟨_, PSs.nox (pss_one (ps_ret (pe_callB (cr_sum rfl) (by rfl) T.sum (by decide +kernel) (pa_cons (pe_lc (own := [("turns", 2)]) (g := gName 2) (tt := tYes) rfl sc_works_before.nd (pi_list (pv 0)) (blkOk_by (N := ["columns", "turn", "turns"]) (sc := defScope s_works_before) (by decide +kernel)) (fun _ _ _ _ _ => (pg_name (i := 2) sc_works_before.nd rfl (.inl rfl))) (fun _ _ _ _ _ => pts_nil) (fun _ _ _ _ _ => (pe_dn dBefore hr (pa_cons (pv 2) (pa_cons (pv 1) pa_nil))))) pa_nil)))), ?_⟩
    refine ⟨_, rfl, l, rfl, ⟨_, SqL.of hl⟩, fun D hD => ?_⟩
    have lxs : xs.length = cols.length := by rw [dl.len, List.length_map]
    refine lc_list (K := K) (xs := xs) (fun b Hb => Hb D = some (.lst (((cols.take b).map fun T => mBefore T i).map V.int)) ∧ Same H Hb) ⟨upd_same, Same.new _ (Same.refl H) hD⟩ (fun b Hb _ z => SqL.of (z.2 _ _ hl)) ?_ ?_
    · rintro b v Hb hv ⟨eD, sb⟩
      obtain ⟨U, hU, dU⟩ := (dl.to (.of sb)).map' hv
      obtain ⟨t, rfl, aU⟩ := dt_tn dU
      have hb : b < cols.length := (List.getElem?_eq_some_iff.mp hU).1
      refine ⟨rfl, yes_of ?_⟩
      refine ⟨_, rfl, _, rfl, t, U, i, rfl, aU, l12 U (List.mem_of_getElem? hU), fun H' s' => ?_⟩
      have eD2 := s' _ _ eD
      refine ⟨_, eD2, sz1m _ (by rw [List.length_map, List.length_map, List.length_take]; omega), ?_, fun b' o e => ?_⟩
      · rw [upd_same, List.take_add_one, hU, List.map_append, List.map_append]
        rfl
      · rw [upd_ne (ne_of_none e hD)]
        exact s' _ _ (sb _ _ e)
    · rintro H3 ⟨eD, sb⟩
      rw [lxs, List.take_length] at eD
      exact ⟨D, _, rfl, SqL.of eD, k _ sb⟩
theorem sc_works_in : FnScope ["columns", "turns"] ["columns"] (defScope s_works_in) := ⟨rfl, rfl, rfl, by decide +kernel, rfl, by decide +kernel, by decide +kernel⟩
theorem ok_wIn {f : Addr} {fd : FuncData} (F : FnP K "works_in" s_works_in f fd) (T : Nb mg) (dManyOf : Dn P w K mg base 2 "many_of" ["turns"] spManyOf) : FnOk P w K mg base CX0 3 f fd ["columns"] spWIn := by
  refine F.ok sc_works_in (fun vs H Q E h => ?_) (fun cdv A outer s H vs Q E hr h => ?_)
  · obtain ⟨l, xs, cols, rfl, _⟩ := h
    rfl
  · obtain ⟨l, xs, cols, rfl, ⟨hl, dl, l12⟩, lc, k⟩ := h
    refine ⟨_, PSs.nox (pss_one (ps_ret (pe_callB (cr_sum rfl) (by rfl) T.sum (by decide +kernel) (pa_cons (pe_lc (own := [("turns", 1)]) (g := gName 1) (tt := tYes) rfl sc_works_in.nd (pi_list (pv 0)) (blkOk_by (N := ["columns", "turns"]) (sc := defScope s_works_in) (by decide +kernel)) (fun _ _ _ _ _ => (pg_name (i := 1) sc_works_in.nd rfl (.inl rfl))) (fun _ _ _ _ _ => pts_nil) (fun _ _ _ _ _ => (pe_dn dManyOf hr (pa_cons (pv 1) pa_nil)))) pa_nil)))), ?_⟩
    refine ⟨_, rfl, l, rfl, ⟨_, SqL.of hl⟩, fun D hD => ?_⟩
    have lxs : xs.length = cols.length := by rw [dl.len, List.length_map]
    refine lc_list (K := K) (xs := xs) (fun b Hb => Hb D = some (.lst (((cols.take b).map fun T => mBefore T (T.hi + 1)).map V.int)) ∧ Same H Hb) ⟨upd_same, Same.new _ (Same.refl H) hD⟩ (fun b Hb _ z => SqL.of (z.2 _ _ hl)) ?_ ?_
    · rintro b v Hb hv ⟨eD, sb⟩
      obtain ⟨U, hU, dU⟩ := (dl.to (.of sb)).map' hv
      obtain ⟨t, rfl, aU⟩ := dt_tn dU
      have hb : b < cols.length := (List.getElem?_eq_some_iff.mp hU).1
      refine ⟨rfl, yes_of ?_⟩
      refine ⟨_, rfl, t, U, rfl, aU, l12 U (List.mem_of_getElem? hU), fun H' s' => ?_⟩
      have eD2 := s' _ _ eD
      refine ⟨_, eD2, sz1m _ (by rw [List.length_map, List.length_map, List.length_take]; omega), ?_, fun b' o e => ?_⟩
      · rw [upd_same, List.take_add_one, hU, List.map_append, List.map_append]
        rfl
      · rw [upd_ne (ne_of_none e hD)]
        exact s' _ _ (sb _ _ e)
    · rintro H3 ⟨eD, sb⟩
      rw [lxs, List.take_length] at eD
      exact ⟨D, _, rfl, SqL.of eD, k _ sb⟩
end
end K35
set_option maxHeartbeats 4000000
namespace K35
open PySem PySem.Spec PyProof.Rows L2 Z
theorem ix_tupK {X : Cx} {K : PySem.W.Frag} (hK : X.K = K) : IxR X (rIxT K) := hK ▸ ix_tup
structure LwTx (K : PySem.W.Frag) (mg : Str → Option Value) : Prop extends PrTx K mg where
  list : mg "list" = none
  range : mg "range" = none
  max : mg "max" = none
  min : mg "min" = none
  sum : mg "sum" = none
  enumerate : mg "enumerate" = none
inductive Gd where
  | lea (a b c : Int)
  | rst (a b c m r : Int)
structure RdM where
  (x : Str) (a b c d f : Int)
structure StM where
  (x : Str) (a b c k : Int) (rds : List RdM) (gds : List Gd)
structure LpM where
  (l0 l1 l2 h0 h1 h2 S : Int) (dn : Bool) (sts : List StM)
def i3 (a b c : Int) : PyData := .tuple [.int a, .int b, .int c]
def sm3 (a b c : Int) : Prop := -3 ≤ a ∧ a ≤ 3 ∧ -3 ≤ b ∧ b ≤ 3 ∧ -600 ≤ c ∧ c ≤ 600
def GdOk : Gd → Prop
  | .lea a b c => sm3 a b c
  | .rst a b c m r => sm3 a b c ∧ 2 ≤ m ∧ m ≤ 4 ∧ 0 ≤ r ∧ r ≤ m - 1
def NmOk (x : Str) : Prop := isName x = true ∧ x.length ≤ 8
def RdOk (r : RdM) : Prop := NmOk r.x ∧ sm3 r.a r.b r.c ∧ 1 ≤ r.d ∧ r.d ≤ 3 ∧ r.f = 1
def StOk (s : StM) : Prop := NmOk s.x ∧ sm3 s.a s.b s.c ∧ 1 ≤ s.k ∧ s.k ≤ 1 ∧ s.rds.length ≤ 1 ∧ s.gds.length ≤ 3 ∧ (∀ r ∈ s.rds, RdOk r) ∧ ∀ g ∈ s.gds, GdOk g
def LpOk (l : LpM) : Prop := 0 ≤ l.l0 ∧ l.l0 ≤ 2 ∧ -600 ≤ l.l1 ∧ l.l1 ≤ 600 ∧ 1 ≤ l.l2 ∧ l.l2 ≤ 3 ∧ 0 ≤ l.h0 ∧ l.h0 ≤ 3 ∧ -600 ≤ l.h1 ∧ l.h1 ≤ 900 ∧ 1 ≤ l.h2 ∧ l.h2 ≤ 3 ∧ 1 ≤ l.S ∧ l.S ≤ 16 ∧ (1 < l.S → l.l2 = 1) ∧ 0 ≤ l.sts.length ∧ l.sts.length ≤ 3 ∧ ∀ s ∈ l.sts, StOk s
theorem fmod_small {x m : Int} (h2 : 2 ≤ m) (h4 : m ≤ 4) : 0 ≤ x.fmod m ∧ x.fmod m ≤ 3 := by
  have := fmod_range (x := x) (show 0 < m by omega)
  omega
theorem sz1l (n : Nat) (h : n < 1000) : n < sizeLine := sz1m n (by omega)
section
variable {α : Type} {R R' : V → α → Prop} {vs : List V} {ms : List α} {v : V} {m : α}
def Fa (R : V → α → Prop) (vs : List V) (ms : List α) : Prop := vs.length = ms.length ∧ ∀ (i : Nat) (v : V) (m : α), vs[i]? = some v → ms[i]? = some m → R v m
theorem Fa.nil : Fa R [] [] := ⟨rfl, fun i v m h => by cases h⟩
theorem Fa.imp (h : Fa R vs ms) (k : ∀ v m, R v m → R' v m) : Fa R' vs ms := ⟨h.1, fun i v m a b => k v m (h.2 i v m a b)⟩
theorem Fa.at (h : Fa R vs ms) {i : Nat} (e : vs[i]? = some v) : ∃ m, ms[i]? = some m ∧ R v m := by
  obtain ⟨m, hm⟩ := zip_at h.1 e
  exact ⟨m, hm, h.2 i v m e hm⟩
theorem Fa.at' (h : Fa R vs ms) {i : Nat} (e : ms[i]? = some m) : ∃ v, vs[i]? = some v ∧ R v m := by
  have hi : i < ms.length := (List.getElem?_eq_some_iff.mp e).1
  have e2 := List.getElem?_eq_getElem (l := vs) (i := i) (by rw [h.1]; exact hi)
  exact ⟨_, e2, h.2 i _ m e2 e⟩
theorem Fa.snoc (h : Fa R vs ms) (k : R v m) : Fa R (vs ++ [v]) (ms ++ [m]) := by
  refine ⟨by rw [List.length_append, List.length_append, h.1]; rfl, fun i v' m' a b => ?_⟩
  by_cases hi : i < vs.length
  · rw [List.getElem?_append_left hi] at a
    rw [List.getElem?_append_left (by rw [← h.1]; exact hi)] at b
    exact h.2 i v' m' a b
  · have hl : i < (vs ++ [v]).length := (List.getElem?_eq_some_iff.mp a).1
    rw [List.length_append, List.length_singleton] at hl
    have e : i = vs.length := by omega
    subst e
    rw [List.getElem?_append_right (Nat.le_refl _), Nat.sub_self] at a
    rw [h.1, List.getElem?_append_right (Nat.le_refl _), Nat.sub_self] at b
    cases a
    cases b
    exact k
end
section
variable (K : PySem.W.Frag)
def GdOb (H : Hp) (v : V) : Gd → Prop
  | .lea a b c => ∃ p, v = .ref p ∧ AtlAt K H p (a.fdiv (g2 a b)) (b.fdiv (g2 a b)) (lf3 a b c)
  | .rst a b c m r => ∃ p, v = .ref p ∧ RstAt K H p (a.fmod m) (b.fmod m) m ((r - c).fmod m)
def RdOb (H : Hp) (v : V) (r : RdM) : Prop := ∃ p a b c d, v = .ref p ∧ RdAt K H p r.x a b c d r.f ∧ -12 ≤ a ∧ a ≤ 12 ∧ -12 ≤ b ∧ b ≤ 12 ∧ 1 ≤ d ∧ d ≤ 3 ∧ ∀ i n : Int, (a * i + b * n + c).fdiv d = (r.a * i + r.b * n + r.c).fdiv r.d
def StOb (H : Hp) (v : V) (s : StM) : Prop := ∃ p rs cs, v = .ref p ∧ StmAt K H p s.x s.a s.b s.c s.k rs cs ∧ Fa (RdOb K H) rs s.rds ∧ Fa (GdOb K H) cs s.gds
def RgF (t : P4) (a c d : Int) : Prop := t.1 = 0 ∧ 0 ≤ t.2.1 ∧ t.2.1 ≤ 3 ∧ -999 ≤ t.2.2.1 ∧ t.2.2.1 ≤ 999 ∧ 1 ≤ t.2.2.2 ∧ t.2.2.2 ≤ 3 ∧ ∀ n : Int, (t.2.1 * n + t.2.2.1).fdiv t.2.2.2 = (a * n + c).fdiv d
def LpOb (H : Hp) (v : V) (l : LpM) : Prop := ∃ p t u xs, v = .ref p ∧ LpAt K H p t u l.S l.dn xs ∧ RgF t l.l0 l.l1 l.l2 ∧ RgF u l.h0 l.h1 l.h2 ∧ Fa (StOb K H) xs l.sts
def PrOb (H : Hp) (v : V) (ls : List LpM) : Prop := ∃ p xs ys, v = .ref p ∧ PrAt K H p xs ys ∧ Fa (LpOb K H) xs ls
end
section
variable {K : PySem.W.Frag} {H H' : Hp} {v : V}
theorem ms_str {q : Addr} {a b c : Int} (s : MS H H') (h : StrAt K H q a b c) : StrAt K H' q a b c := by
  obtain ⟨dx, h⟩ := h
  exact ⟨dx, s _ _ h rfl⟩
theorem ms_plc {q : Addr} {a b c d : Int} (s : MS H H') (h : PlcAt K H q a b c d) : PlcAt K H' q a b c d := by
  obtain ⟨dx, q, h, h2⟩ := h
  exact ⟨dx, q, s _ _ h rfl, ms_str s h2⟩
theorem GdOb.ms {g : Gd} (h : GdOb K H v g) (s : MS H H') : GdOb K H' v g := by
  cases g with
  | lea a b c =>
    obtain ⟨p, e, dx, q, h1, h2⟩ := h
    exact ⟨p, e, dx, q, s _ _ h1 rfl, ms_str s h2⟩
  | rst a b c m r =>
    obtain ⟨p, e, dx, q, h1, h2⟩ := h
    exact ⟨p, e, dx, q, s _ _ h1 rfl, ms_str s h2⟩
theorem RdOb.ms {r : RdM} (h : RdOb K H v r) (s : MS H H') : RdOb K H' v r := by
  obtain ⟨p, a, b, c, d, e, ⟨dx, q, h1, h2⟩, k⟩ := h
  exact ⟨p, a, b, c, d, e, ⟨dx, q, s _ _ h1 rfl, ms_plc s h2⟩, k⟩
theorem StOb.ms {m : StM} (h : StOb K H v m) (s : MS H H') : StOb K H' v m := by
  obtain ⟨p, rs, cs, e, ⟨dx, q, r, g, h1, h2, h3, h4⟩, h5, h6⟩ := h
  exact ⟨p, rs, cs, e, ⟨dx, q, r, g, s _ _ h1 rfl, ms_str s h2, s.sqT h3, s.sqT h4⟩, h5.imp fun _ _ z => z.ms s, h6.imp fun _ _ z => z.ms s⟩
theorem LpOb.ms {l : LpM} (h : LpOb K H v l) (s : MS H H') : LpOb K H' v l := by
  obtain ⟨p, t, u, xs, e, ⟨dx, lo, hi, st, h1, h2, h3, h4⟩, h5, h6, h7⟩ := h
  exact ⟨p, t, u, xs, e, ⟨dx, lo, hi, st, s _ _ h1 rfl, ms_plc s h2, ms_plc s h3, s.sqT h4⟩, h5, h6, h7.imp fun _ _ z => z.ms s⟩
theorem PrOb.ms {ls : List LpM} (h : PrOb K H v ls) (s : MS H H') : PrOb K H' v ls := by
  obtain ⟨p, xs, ys, e, ⟨dx, l, a, d, h1, h2, h3⟩, h4⟩ := h
  exact ⟨p, xs, ys, e, ⟨dx, l, a, d, s _ _ h1 rfl, s.sqT h2, s.sqT h3⟩, h4.imp fun _ _ z => z.ms s⟩
theorem GdOb.same {g : Gd} (h : GdOb K H v g) (s : Same H H') : GdOb K H' v g := h.ms (.of s)
theorem RdOb.same {r : RdM} (h : RdOb K H v r) (s : Same H H') : RdOb K H' v r := h.ms (.of s)
theorem StOb.same {m : StM} (h : StOb K H v m) (s : Same H H') : StOb K H' v m := h.ms (.of s)
theorem LpOb.same {l : LpM} (h : LpOb K H v l) (s : Same H H') : LpOb K H' v l := h.ms (.of s)
theorem PrOb.same {ls : List LpM} (h : PrOb K H v ls) (s : Same H H') : PrOb K H' v ls := h.ms (.of s)
theorem pe_RK {X : Cx} {K : PySem.W.Frag} {e : Expr} {es : List Expr} {t : TA} {p pos : Pos} {k : Nat} {E : L2.St → XK} (hK : X.K = K) (T : AtTx K X.mg) (M : MkR X.prog X.w K X.mg X.base) (hr : Room k X.A) (hx : ∀ σ, PassesAt (L2.CX X.prog X.w) X σ (E σ)) (ha : PA X (e :: es) t) (hk : 5 ≤ k := by decide) (hg : Gl X "Rest" := by rfl)
    (he : starEach (e :: es) X.env = (false, eval e X.env) :: starEach es X.env := by rfl) (hpl : (backTo pos (starEach es X.env)).any (·.1) = false := by rfl) :
    PE X (.Call (.Name "Rest" p) (e :: es) [] pos) (fun σ H Q => t σ H fun vs H1 => ∃ v m r, vs = [v, .int m, .int r] ∧ rRst K v m r H1 (fun a b c => NewR K H1 (a.fmod m) (b.fmod m) m ((r - c).fmod m) Q) (E σ)) := by
  subst hK
  exact pe_R T M hr hx ha hk hg he hpl
end
def tFCallK (K : PySem.W.Frag) (C2 : Addr) (m : Str) (sp : Sp) (E : XK) (ta : TE) (t : TA) : TE := fun σ H Q => ta σ H fun x H1 => ∃ a C dx fs q, x = .ref a ∧ H1 a = some (.ins C dx fs) ∧ Cls K C ∧ NoAttr K C m ∧ fs.lookup m = some (.ref q) ∧ t σ H1 fun vs H2 => (∃ dx fs, H2 q = some (.ins C2 dx fs)) ∧ sp (.ref q :: vs) H2 Q E
theorem pe_fcallK {X : Cx} {K : PySem.W.Frag} {CX : CXT} {k : Nat} {g C2 : Addr} {sp : Sp} {E : XK} {o e : Expr} {es : List Expr} {m : Str} {apos pos : Pos} {ta : TE} {t : TA} {pl : Sem Bool} (hK : X.K = K) (he : PE X o ta) (c : StX.CallO K C2 g) (F : FnR X.prog X.w K X.mg X.base CX k g sp) (hr : Room k X.A) (hx : Passes CX X E) (ha : PA X (e :: es) t)
    (ht : eval (.Call (.Attribute o m apos) (e :: es) [] pos) X.env = (do
      let ov ← eval o X.env
      standAt apos.atName
      let (f, first) ← holding [ov] (getMethod ov m pl)
      callWith pos f first (backTo pos (starEach (e :: es) X.env)) (backToKw pos (keywordEach [] X.env))) := by rfl)
    (hst : starEach (e :: es) X.env = (false, eval e X.env) :: starEach es X.env := by rfl) (hpl : (backTo pos (starEach es X.env)).any (·.1) = false := by rfl) :
    PE X (.Call (.Attribute o m apos) (e :: es) [] pos) (tFCallK K C2 m sp E ta t) := by
  subst hK
  exact pe_fcall he c F hr hx ha ht hst hpl
def pv_ (a c d n : Int) : Int := (a * n + c).fdiv d
/-- how many turns from the least counter on -/
def mt_ (l h S : Int) : Int := if -((l - h).fdiv S) > 0 then -((l - h).fdiv S) else 0
/-- the least counter -/
def lc_ (l S : Int) : Int := if 0 ≤ l then l else l.fmod S
def lpL (l : LpM) (n : Int) : Int := lc_ (pv_ l.l0 l.l1 l.l2 n) l.S
def lpN (l : LpM) (n : Int) : Int := mt_ (lpL l n) (pv_ l.h0 l.h1 l.h2 n) l.S
def gdV (g : Gd) (i n : Int) : Bool := match g with
  | .lea a b c => decide (0 ≤ a * i + b * n + c)
  | .rst a b c m r => decide ((a * i + b * n + c).fmod m = r)
def stDone (s : StM) (i n : Int) : Bool := s.gds.all fun g => gdV g i n
theorem sm_of {x : Int} (h1 : -999 ≤ x) (h2 : x ≤ 999) : Sm x := by unfold Sm; omega
section
variable (K : PySem.W.Frag)
def spSCall : Sp := fun vs H Q _ => ∃ (p : Addr) (a b c i n : Int), vs = [.ref p, .int i, .int n] ∧ StrAt K H p a b c ∧ Sm a ∧ Sm b ∧ Q (.int (a * i + b * n + c)) H
def spAH : Sp := fun vs H Q _ => ∃ (p : Addr) (a b c i n : Int), vs = [.ref p, .int i, .int n] ∧ AtlAt K H p a b c ∧ Sm a ∧ Sm b ∧ Q (.bl (decide (0 ≤ a * i + b * n + c))) H
def spRH : Sp := fun vs H Q _ => ∃ (p : Addr) (a b m r i n : Int), vs = [.ref p, .int i, .int n] ∧ RstAt K H p a b m r ∧ Sm a ∧ Sm b ∧ m ≠ 0 ∧ Q (.bl (decide ((a * i + b * n + 0).fmod m = r))) H
def spDone : Sp := fun vs H Q _ => ∃ (v : V) (s : StM) (i n : Int), vs = [v, .int i, .int n] ∧ StOb K H v s ∧ StOk s ∧ ∀ H', Same H H' → Q (.bl (stDone s i n)) H'
def spTurns : Sp := fun vs H Q _ => ∃ (v : V) (l : LpM) (f n : Int), vs = [v, .int f, .int n] ∧ LpOb K H v l ∧ LpOk l ∧ Q (.int (mt_ f (pv_ l.h0 l.h1 l.h2 n) l.S)) H
def spLC : Sp := fun vs H Q _ => ∃ (v : V) (l : LpM) (n : Int), vs = [v, .int n] ∧ LpOb K H v l ∧ LpOk l ∧ Q (.int (lpL l n)) H
def spMT : Sp := fun vs H Q _ => ∃ (v : V) (l : LpM) (n : Int), vs = [v, .int n] ∧ LpOb K H v l ∧ LpOk l ∧ Q (.int (lpN l n)) H
def spCO : Sp := fun vs H Q _ => ∃ (v : V) (l : LpM) (n k : Int), vs = [v, .int n, .int k] ∧ LpOb K H v l ∧ LpOk l ∧ 0 ≤ k ∧ k ≤ lpN l n - 1 ∧ Q (.int (lpL l n + (if l.dn = true then lpN l n - 1 - k else k) * l.S)) H
end
/-- a place may be called, a sum may be called -/
structure PC (P : Program) (w : World) (K : PySem.W.Frag) (mg : Str → Option Value) (base : Heap) : Prop where
  call : ∃ fd, FnOk P w K mg base CX0 2 (He.ma K (CP K) "__call__") fd ["self", "i", "n"] (spPCall K) ∧ Binds K fd ["self", "i", "n"] [] ∧ StX.CallO K (CP K) (He.ma K (CP K) "__call__")
  calS : ∃ fd, FnOk P w K mg base CX0 2 (He.ma K (CS K) "__call__") fd ["self", "i", "n"] (spSCall K) ∧ Binds K fd ["self", "i", "n"] [] ∧ StX.CallO K (CS K) (He.ma K (CS K) "__call__")
theorem lp_no (lo hi st : Addr) (S : Int) (dn : Bool) {m : Str} (h1 : ¬ m = "low") (h2 : ¬ m = "high") (h3 : ¬ m = "statements") (h4 : ¬ m = "step") (h5 : ¬ m = "down") : (lpf lo hi st S dn).lookup m = none := by
  unfold lpf
  rw [lookup_putF, if_neg h5, lookup_putF, if_neg h4, lookup_putF, if_neg h3, lookup_putF, if_neg h2, lookup_putF, if_neg h1]
  rfl
theorem no_lc (lo hi st : Addr) (S : Int) (dn : Bool) : (lpf lo hi st S dn).lookup ("least_counter" : Str) = none := lp_no _ _ _ _ _ (by decide +kernel) (by decide +kernel) (by decide +kernel) (by decide +kernel) (by decide +kernel)
theorem no_mt (lo hi st : Addr) (S : Int) (dn : Bool) : (lpf lo hi st S dn).lookup ("many_turns" : Str) = none := lp_no _ _ _ _ _ (by decide +kernel) (by decide +kernel) (by decide +kernel) (by decide +kernel) (by decide +kernel)
theorem no_co (lo hi st : Addr) (S : Int) (dn : Bool) : (lpf lo hi st S dn).lookup ("counter_of" : Str) = none := lp_no _ _ _ _ _ (by decide +kernel) (by decide +kernel) (by decide +kernel) (by decide +kernel) (by decide +kernel)
section
variable {P : Program} {w : World} {K : PySem.W.Frag} {mg : Str → Option Value} {base : Heap}
theorem scStraight__call__ : FnScope ["self", "i", "n"] ["self", "i", "n"] (defScope iStraight__call__) := ⟨rfl, rfl, rfl, by decide +kernel, rfl, by decide +kernel, by decide +kernel⟩
theorem ok_SCall {fd : FuncData} (F : FnM K "Straight" "__call__" "Straight.__call__" iStraight__call__ fd) (dVal : Dn P w K mg base 1 "value_of" ["straight", "i", "n"] (spVal K)) : FnOk P w K mg base CX0 2 (He.ma K (CS K) "__call__") fd ["self", "i", "n"] (spSCall K) := by
  refine F.ok scStraight__call__ (fun vs H Q E h => ?_) (fun cdv A outer s H vs Q E hr h => ?_)
  · obtain ⟨p, a, b, c, i, n, rfl, _⟩ := h
    rfl
  · obtain ⟨p, a, b, c, i, n, rfl, hp, sa, sb, k⟩ := h
    refine ⟨_, PSs.nox (pss_one (ps_ret (pe_dn dVal hr (pa_cons (pv 0) (pa_cons (pv 1) (pa_cons (pv 2) pa_nil)))))), ?_⟩
    exact ⟨_, rfl, _, rfl, _, rfl, p, a, b, c, i, n, rfl, hp, sa, sb, k⟩
theorem scAtLeastholds : FnScope ["self", "i", "n"] ["self", "i", "n"] (defScope iAtLeastholds) := ⟨rfl, rfl, rfl, by decide +kernel, rfl, by decide +kernel, by decide +kernel⟩
theorem ok_AHolds {fd : FuncData} (F : FnM K "AtLeast" "holds" "AtLeast.holds" iAtLeastholds fd) (T : PrTx K mg) (dVal : Dn P w K mg base 1 "value_of" ["straight", "i", "n"] (spVal K)) : FnOk P w K mg base CX0 2 (He.ma K (CA K) "holds") fd ["self", "i", "n"] (spAH K) := by
  refine F.ok scAtLeastholds (fun vs H Q E h => ?_) (fun cdv A outer s H vs Q E hr h => ?_)
  · obtain ⟨p, a, b, c, i, n, rfl, _⟩ := h
    rfl
  · obtain ⟨p, a, b, c, i, n, rfl, ⟨dx, q, hp, hq⟩, ba, bb, k⟩ := h
    refine ⟨_, PSs.nox (pss_one (ps_ret (pe_cmpR op_ge (pe_dn dVal hr (pa_cons (pe_fld (pv 0) rfl) (pa_cons (pv 1) (pa_cons (pv 2) pa_nil)))) pe_int (nomark _)))), ?_⟩
    exact ⟨_, rfl, p, _, dx, _, _, rfl, hp, T.clA, T.nAS, af_s _, _, rfl, _, rfl, q, a, b, c, i, n, rfl, hq, ba, bb, _, _, rfl, rfl, k⟩
theorem scRestholds : FnScope ["self", "i", "n"] ["self", "i", "n"] (defScope iRestholds) := ⟨rfl, rfl, rfl, by decide +kernel, rfl, by decide +kernel, by decide +kernel⟩
theorem ok_RHolds {fd : FuncData} (F : FnM K "Rest" "holds" "Rest.holds" iRestholds fd) (T : PrTx K mg) (dVal : Dn P w K mg base 1 "value_of" ["straight", "i", "n"] (spVal K)) : FnOk P w K mg base CX0 2 (He.ma K (CR K) "holds") fd ["self", "i", "n"] (spRH K) := by
  refine F.ok scRestholds (fun vs H Q E h => ?_) (fun cdv A outer s H vs Q E hr h => ?_)
  · obtain ⟨p, a, b, m, r, i, n, rfl, _⟩ := h
    rfl
  · obtain ⟨p, a, b, m, r, i, n, rfl, ⟨dx, q, hp, hq⟩, ba, bb, m0, k⟩ := h
    refine ⟨_, PSs.nox (pss_one (ps_ret (pe_cmpR op_eq (pe_op op_modN (pe_dn dVal hr (pa_cons (pe_fld (pv 0) rfl) (pa_cons (pv 1) (pa_cons (pv 2) pa_nil)))) (pe_fld (pv 0) rfl)) (pe_fld (pv 0) rfl) (nomark _)))), ?_⟩
    refine ⟨_, rfl, p, _, dx, _, _, rfl, hp, T.clQ, T.nRS, rf_s _ _ _, _, rfl, _, rfl, q, a, b, 0, i, n, rfl, hq, ba, bb, ?_⟩
    refine ⟨_, rfl, p, _, dx, _, _, rfl, hp, T.clQ, T.nRM, rf_m _ _ _, _, _, rfl, rfl, m0, _, rfl, p, _, dx, _, _, rfl, hp, T.clQ, T.nRR, rf_r _ _ _, rfl, ?_⟩
    have e : decide (V.int ((a * i + b * n + 0).fmod m) = V.int r) = decide ((a * i + b * n + 0).fmod m = r) := decide_eq_decide.mpr ⟨V.int.inj, congrArg V.int⟩
    rw [← e] at k
    exact k
theorem sc_turns_from : FnScope ["loop", "least", "n"] ["loop", "least", "n"] (defScope s_turns_from) := ⟨rfl, rfl, rfl, by decide +kernel, rfl, by decide +kernel, by decide +kernel⟩
theorem ok_turns {f : Addr} {fd : FuncData} (F : FnP K "turns_from" s_turns_from f fd) (T : LwTx K mg) (C : PC P w K mg base) : FnOk P w K mg base CX0 3 f fd ["loop", "least", "n"] (spTurns K) := by
  refine F.ok sc_turns_from (fun vs H Q E h => ?_) (fun cdv A outer s H vs Q E hr h => ?_)
  · obtain ⟨v, l, f, n, rfl, _⟩ := h
    rfl
  · obtain ⟨v, l, f, n, rfl, ⟨p, t, u, xs, rfl, ⟨dx, lo, hi, st, hp, hlo, hhi, hst⟩, f1, f2, _⟩, ok, k⟩ := h
    obtain ⟨fdc, Fc, hbc, cc⟩ := C.call
    refine ⟨_, PSs.nox (pss_one (ps_ret (pe_callB (call_max2 rfl) (by rfl) T.max (by decide +kernel) (pa_cons pe_int (pa_cons (pe_un un_neg (pe_op op_fdivN (pe_op op_sub (pv 1) (pe_fcallK (K := K) rfl (pv 0) cc (FnOk.raw Fc hbc .nil) (hr.mono (by decide)) pass0 (pa_cons pe_int (pa_cons (pv 2) pa_nil)))) (pe_fld (pv 0) rfl))) pa_nil))))), ?_⟩
    obtain ⟨dh, qh, hh, _⟩ := id hhi
    obtain ⟨u0, u1, u2, u3, u4, u5, u6, ue⟩ := f2
    obtain ⟨_, _, _, _, _, _, _, _, _, _, _, _, S0, S1, _⟩ := ok
    refine ⟨_, rfl, _, rfl, p, _, dx, _, hi, rfl, hp, T.clL, T.nHi, lp_hi _ _ _ _ _, _, rfl, ⟨_, _, hh⟩, hi, _, _, _, _, 0, n, rfl, hhi, sm_of (by omega) (by omega), sm_of (by omega) (by omega), by omega, by omega, ?_⟩
    refine ⟨_, _, rfl, rfl, _, rfl, p, _, dx, _, _, rfl, hp, T.clL, T.nSp, lp_st _ _ _ _ _, _, _, rfl, rfl, ⟨by omega, by omega⟩, _, rfl, ?_⟩
    refine ⟨_, _, rfl, ?_⟩
    unfold mt_ pv_ at k
    have e : u.1 * 0 + u.2.1 * n + u.2.2.1 = u.2.1 * n + u.2.2.1 := by omega
    rw [e, ue]
    exact k
theorem scLoopleast_counter : FnScope ["self", "n", "low"] ["self", "n"] (defScope iLoopleast_counter) := ⟨rfl, rfl, rfl, by decide +kernel, rfl, by decide +kernel, by decide +kernel⟩
theorem ok_LC {fd : FuncData} (F : FnM K "Loop" "least_counter" "Loop.least_counter" iLoopleast_counter fd) (T : LwTx K mg) (C : PC P w K mg base) : FnOk P w K mg base CX0 3 (He.ma K (CL K) "least_counter") fd ["self", "n"] (spLC K) := by
  refine F.ok scLoopleast_counter (fun vs H Q E h => ?_) (fun cdv A outer s H vs Q E hr h => ?_)
  · obtain ⟨v, l, n, rfl, _⟩ := h
    rfl
  · obtain ⟨v, l, n, rfl, ⟨p, t, u, xs, rfl, ⟨dx, lo, hi, st, hp, hlo, hhi, hst⟩, f1, f2, _⟩, ok, k⟩ := h
    obtain ⟨fdc, Fc, hbc, cc⟩ := C.call
    refine ⟨_, PSs.nox (pss_cons (ps_set (i := 2) scLoopleast_counter.nd rfl (Or.inl rfl) (pe_fcallK (K := K) rfl (pv 0) cc (FnOk.raw Fc hbc .nil) (hr.mono (by decide)) pass0 (pa_cons pe_int (pa_cons (pv 1) pa_nil))))
      (pss_one (ps_ret (pe_ifExp (pt_cmpR op_ge (pv 2) pe_int (nomark _)) (pv 2) (pe_op op_modN (pv 2) (pe_fld (pv 0) rfl)))))), ?_⟩
    obtain ⟨dh, qh, hh, _⟩ := id hlo
    obtain ⟨u0, u1, u2, u3, u4, u5, u6, ue⟩ := f1
    obtain ⟨_, _, _, _, _, _, _, _, _, _, _, _, S0, S1, _⟩ := ok
    refine ⟨_, rfl, p, _, dx, _, lo, rfl, hp, T.clL, T.nLo, lp_lo _ _ _ _ _, _, rfl, ⟨_, _, hh⟩, lo, _, _, _, _, 0, n, rfl, hlo, sm_of (by omega) (by omega), sm_of (by omega) (by omega), by omega, by omega, ?_⟩
    have e : t.1 * 0 + t.2.1 * n + t.2.2.1 = t.2.1 * n + t.2.2.1 := by omega
    rw [e, ue]
    unfold lpL lc_ pv_ at k
    refine ⟨_, rfl, _, _, rfl, rfl, _, rfl, ite2 (fun h => ?_) (fun h => ?_)⟩
    · rw [if_pos (of_decide_eq_true h)] at k
      exact ⟨_, rfl, k⟩
    · rw [if_neg (fun z => h (decide_eq_true z))] at k
      exact ⟨_, rfl, _, rfl, p, _, dx, _, _, rfl, hp, T.clL, T.nSp, lp_st _ _ _ _ _, _, _, rfl, rfl, by omega, k⟩
end
end K35
set_option maxHeartbeats 4000000
namespace K35
open PySem PySem.Spec PyProof.Rows L2 Z
def due (l S : Int) (m : Nat) (dn : Bool) : List Int := (List.range m).map fun (j : Nat) => l + (if dn = true then (m : Int) - 1 - (j : Int) else (j : Int)) * S
theorem due_up (l S : Int) (m : Nat) : (List.range m).map (fun (j : Nat) => l + (j : Int) * S) = due l S m false := by
  unfold due
  simp
theorem due_dn (l S : Int) (m : Nat) : ((List.range m).map (fun (j : Nat) => l + (j : Int) * S)).reverse = due l S m true := by
  unfold due
  apply List.ext_getElem
  · simp
  · intro i h1 h2
    simp only [List.length_reverse, List.length_map, List.length_range] at h1
    simp [List.getElem_reverse]
    have e : ((m - 1 - i : Nat) : Int) = (m : Int) - 1 - (i : Int) := by omega
    rw [e]
/-- the counters of a loop's turns, in order -/
def lpCs (l : LpM) (n : Int) : List Int := due (lpL l n) l.S (lpN l n).toNat l.dn
theorem all_map {α : Type} {p : α → Bool} (l : List α) : (l.map p).all id = l.all p := by
  induction l with
  | nil => rfl
  | cons a l ih => simp
theorem rh_no (q : Addr) (m r : Int) : (rf q m r).lookup ("holds" : Str) = none := rf_no q m r (by decide +kernel) (by decide +kernel) (by decide +kernel)
theorem sm_fd {a b c : Int} (h : GdOk (.lea a b c)) : Sm (a.fdiv (g2 a b)) ∧ Sm (b.fdiv (g2 a b)) := by
  obtain ⟨h1, h2, h3, h4, h5, h6⟩ := h
  by_cases z : g2 a b = 0
  · obtain ⟨rfl, rfl⟩ := g2_zero z
    rw [Int.zero_fdiv]
    exact ⟨sm_of (by decide) (by decide), sm_of (by decide) (by decide)⟩
  · have g0 : (0 : Int) < (g2 a b : Int) := by omega
    have ga := fdiv_bd (x := a) (M := 12) g0 (by decide) (by omega) (by omega)
    have gb := fdiv_bd (x := b) (M := 12) g0 (by decide) (by omega) (by omega)
    exact ⟨sm_of (by omega) (by omega), sm_of (by omega) (by omega)⟩
theorem sm_fm {x m : Int} (h2 : 2 ≤ m) (h4 : m ≤ 4) : Sm (x.fmod m) := by
  have := fmod_small (x := x) h2 h4
  exact sm_of (by omega) (by omega)
/-- the conditions' methods -/
structure HC (P : Program) (w : World) (K : PySem.W.Frag) (mg : Str → Option Value) (base : Heap) : Prop where
  ah : ∃ fd, FnOk P w K mg base CX0 2 (He.ma K (CA K) "holds") fd ["self", "i", "n"] (spAH K) ∧ Binds K fd ["self", "i", "n"] [] ∧ Meth K (CA K) "holds" (He.ma K (CA K) "holds")
  rh : ∃ fd, FnOk P w K mg base CX0 2 (He.ma K (CR K) "holds") fd ["self", "i", "n"] (spRH K) ∧ Binds K fd ["self", "i", "n"] [] ∧ Meth K (CR K) "holds" (He.ma K (CR K) "holds")
def LM1 (P : Program) (w : World) (K : PySem.W.Frag) (mg : Str → Option Value) (base : Heap) : Prop := ∃ fd, FnOk P w K mg base CX0 3 (He.ma K (CL K) "least_counter") fd ["self", "n"] (spLC K) ∧ Binds K fd ["self", "n"] [] ∧ Meth K (CL K) "least_counter" (He.ma K (CL K) "least_counter")
theorem LpOb.ref {K : PySem.W.Frag} {H : Hp} {v : V} {l : LpM} (h : LpOb K H v l) : ∃ p dx lo hi st, v = .ref p ∧ H p = some (.ins (CL K) dx (lpf lo hi st l.S l.dn)) := by
  obtain ⟨p, t, u, xs, e, ⟨dx, lo, hi, st, h1, _⟩, _⟩ := h
  exact ⟨p, dx, lo, hi, st, e, h1⟩
section
variable {P : Program} {w : World} {K : PySem.W.Frag} {mg : Str → Option Value} {base : Heap}
theorem scLoopmany_turns : FnScope ["self", "n"] ["self", "n"] (defScope iLoopmany_turns) := ⟨rfl, rfl, rfl, by decide +kernel, rfl, by decide +kernel, by decide +kernel⟩
theorem ok_MT {fd : FuncData} (F : FnM K "Loop" "many_turns" "Loop.many_turns" iLoopmany_turns fd) (T : LwTx K mg) (L : LM1 P w K mg base) (dTurns : Dn P w K mg base 3 "turns_from" ["loop", "least", "n"] (spTurns K)) : FnOk P w K mg base CX0 4 (He.ma K (CL K) "many_turns") fd ["self", "n"] (spMT K) := by
  refine F.ok scLoopmany_turns (fun vs H Q E h => ?_) (fun cdv A outer s H vs Q E hr h => ?_)
  · obtain ⟨v, l, n, rfl, _⟩ := h
    rfl
  · obtain ⟨v, l, n, rfl, hL, ok, k⟩ := h
    obtain ⟨fdl, Fl, hbl, cl⟩ := L
    refine ⟨_, PSs.nox (pss_one (ps_ret (pe_dn dTurns hr (pa_cons (pv 0) (pa_cons (pe_meth (pv 0) T.clL cl Fl (hr.mono (by decide)) hbl .nil pass0 (pa_cons (pv 1) pa_nil)) (pa_cons (pv 1) pa_nil)))))), ?_⟩
    obtain ⟨p, dx, lo, hi, st, rfl, hp⟩ := hL.ref
    exact ⟨_, rfl, _, rfl, p, dx, _, rfl, hp, no_lc _ _ _ _ _, _, rfl, _, l, n, rfl, hL, ok, _, rfl, _, l, _, n, rfl, hL, ok, k⟩
theorem scLoopcounter_of : FnScope ["self", "n", "turn", "least", "many", "place"] ["self", "n", "turn"] (defScope iLoopcounter_of) := ⟨rfl, rfl, rfl, by decide +kernel, rfl, by decide +kernel, by decide +kernel⟩
theorem ok_CO {fd : FuncData} (F : FnM K "Loop" "counter_of" "Loop.counter_of" iLoopcounter_of fd) (T : LwTx K mg) (L : LM1 P w K mg base) (dTurns : Dn P w K mg base 3 "turns_from" ["loop", "least", "n"] (spTurns K))
    (dIsIntFrom : Dn P w K mg base 2 "is_integer_from" ["value", "low", "high"] spIntFrom) : FnOk P w K mg base CX0 4 (He.ma K (CL K) "counter_of") fd ["self", "n", "turn"] (spCO K) := by
  refine F.ok scLoopcounter_of (fun vs H Q E h => ?_) (fun cdv A outer s H vs Q E hr h => ?_)
  · obtain ⟨v, l, n, k, rfl, _⟩ := h
    rfl
  · obtain ⟨v, l, n, k, rfl, hL, ok, k0, k1, kk⟩ := h
    obtain ⟨fdl, Fl, hbl, cl⟩ := L
    refine ⟨_, PSs.nox (pss_cons (ps_set (i := 3) scLoopcounter_of.nd rfl (Or.inl rfl) (pe_meth (pv 0) T.clL cl Fl (hr.mono (by decide)) hbl .nil pass0 (pa_cons (pv 1) pa_nil)))
      (pss_cons (ps_set (i := 4) scLoopcounter_of.nd rfl (Or.inl rfl) (pe_dn dTurns hr (pa_cons (pv 0) (pa_cons (pv 3) (pa_cons (pv 1) pa_nil)))))
      (pss_cons (ps_if (pt_not (pt_val (pe_dn dIsIntFrom hr (pa_cons (pv 2) (pa_cons pe_int (pa_cons (pe_op op_sub (pv 4) pe_int) pa_nil)))))) (pss_one ps_never) pss_nil)
      (pss_cons (ps_set (i := 5) scLoopcounter_of.nd rfl (Or.inl rfl) (pe_ifExp (pt_val (pe_fld (pv 0) rfl)) (pe_op op_sub (pe_op op_sub (pv 4) pe_int) (pv 2)) (pv 2)))
      (pss_one (ps_ret (pe_op op_add (pv 3) (pe_op op_mul (pv 5) (pe_fld (pv 0) rfl))))))))), ?_⟩
    obtain ⟨p, dx, lo, hi, st, rfl, hp⟩ := hL.ref
    refine ⟨_, rfl, p, dx, _, rfl, hp, no_lc _ _ _ _ _, _, rfl, _, l, n, rfl, hL, ok, ?_⟩
    refine ⟨_, rfl, _, rfl, _, rfl, _, l, _, n, rfl, hL, ok, ?_⟩
    refine ⟨_, rfl, _, rfl, _, _, rfl, rfl, k, 0, _, rfl, ?_⟩
    have S0 : 1 ≤ l.S ∧ l.S ≤ 16 := by
      obtain ⟨_, _, _, _, _, _, _, _, _, _, _, _, S0, S1, _⟩ := ok
      exact ⟨S0, S1⟩
    unfold lpN at k1 kk
    rw [decide_eq_true ⟨k0, k1⟩]
    refine ⟨_, rfl, iteF ?_⟩
    refine ⟨_, rfl, p, _, dx, _, _, rfl, hp, T.clL, T.nDn, lp_dn _ _ _ _ _, ?_⟩
    cases hdn : l.dn
    · rw [hdn] at kk
      exact ⟨_, rfl, iteF ⟨_, rfl, _, rfl, _, rfl, _, rfl, p, _, dx, _, _, rfl, hp, T.clL, T.nSp, lp_st _ _ _ _ _, _, _, rfl, rfl, .inr ⟨by omega, by omega⟩, _, _, rfl, rfl, kk⟩⟩
    · rw [hdn] at kk
      exact ⟨_, rfl, iteT ⟨_, rfl, _, _, rfl, rfl, _, rfl, _, _, rfl, rfl, _, rfl, _, rfl, _, rfl, p, _, dx, _, _, rfl, hp, T.clL, T.nSp, lp_st _ _ _ _ _, _, _, rfl, rfl, .inr ⟨by omega, by omega⟩, _, _, rfl, rfl, kk⟩⟩
end
end K35
set_option maxHeartbeats 4000000
namespace K35
open PySem PySem.Spec PyProof.Rows L2 Z
def lpF (l : LpM) (n : Int) : Int := lpL l n + (if l.dn = true then lpN l n - 1 - 0 else 0) * l.S
def lpS (l : LpM) : Int := if l.dn = true then -l.S else l.S
def cdOf (f st n : Int) : Gd → Cd
  | .lea a b c => .lea (a.fdiv (g2 a b) * f + b.fdiv (g2 a b) * n + lf3 a b c) (a.fdiv (g2 a b) * st)
  | .rst a b c m r => .rst (a * f + b * n + c) (a * st) m r
def dtn (l : LpM) (n : Int) (gds : List Gd) : Tn := if lpN l n - 1 < 0 then ⟨0, lpN l n - 1, []⟩ else if (dtAll (lpN l n) (gds.map (cdOf (lpF l n) (lpS l) n))).rs = [] then ⟨0, -1, []⟩ else dtAll (lpN l n) (gds.map (cdOf (lpF l n) (lpS l) n))
def spDT (K : PySem.W.Frag) : Sp := fun vs H Q _ => ∃ (v : V) (l : LpM) (c0 : Addr) (ws : List V) (gds : List Gd) (n : Int), vs = [v, .ref c0, .int n] ∧ LpOb K H v l ∧ LpOk l ∧ SqT K H c0 ws ∧ Fa (GdOb K H) ws gds ∧ gds.length ≤ 3 ∧ (∀ g ∈ gds, GdOk g) ∧ ∀ t H', Same H H' → TnAt H' t (dtn l n gds) → Q (.ref t) H'
structure LMs (P : Program) (w : World) (K : PySem.W.Frag) (mg : Str → Option Value) (base : Heap) : Prop where
  mt : ∃ fd, FnOk P w K mg base CX0 4 (He.ma K (CL K) "many_turns") fd ["self", "n"] (spMT K) ∧ Binds K fd ["self", "n"] [] ∧ Meth K (CL K) "many_turns" (He.ma K (CL K) "many_turns")
  co : ∃ fd, FnOk P w K mg base CX0 4 (He.ma K (CL K) "counter_of") fd ["self", "n", "turn"] (spCO K) ∧ Binds K fd ["self", "n", "turn"] [] ∧ Meth K (CL K) "counter_of" (He.ma K (CL K) "counter_of")
structure CdTx (K : PySem.W.Frag) (mg : Str → Option Value) : Prop where
  iA : Inx K (CA K)
  iR : Inx K (CR K)
  kAR : PySem.W.kitOne K (.ref (CA K)) (.ref (CR K)) = some false
  kRR : PySem.W.kitOne K (.ref (CR K)) (.ref (CR K)) = some true
  cyc : ∃ t, mg "CYCLE" = some (.int 12 t)
  tuple : mg "tuple" = none
theorem dtAll_len {N : Int} {cs : List Cd} : (dtAll N cs).rs.length ≤ 12 := by
  unfold dtAll
  have all : ∀ (cs : List Cd) (T : Tn), T.rs.length ≤ 12 → (cs.foldl dtStep T).rs.length ≤ 12 := by
    intro cs
    induction cs with
    | nil => intro T h; exact h
    | cons c cs ih =>
      intro T h
      refine ih _ ?_
      cases c with
      | lea x g => exact h
      | rst x s m r => exact Nat.le_trans (List.length_filter_le _ _) h
  exact all cs _ (Nat.le_refl _)
theorem sz0 : 0 ≤ sizeLine := Nat.zero_le _
section
variable {P : Program} {w : World} {K : PySem.W.Frag} {mg : Str → Option Value} {base : Heap}
theorem sc_done_turns : FnScope ["loop", "conditions", "n", "low", "high", "first", "stride", "rests", "condition", "turn", "straight"] ["loop", "conditions", "n"] (defScope s_done_turns) := ⟨rfl, rfl, rfl, by decide +kernel, rfl, by decide +kernel, by decide +kernel⟩
theorem ok_DT {f : Addr} {fd : FuncData} (F : FnP K "done_turns" s_done_turns f fd) (T : LwTx K mg) (U : CdTx K mg) (C : PC P w K mg base) (HCo : HC P w K mg base) (L : LMs P w K mg base)
    (dNarrow : Dn P w K mg base 1 "narrowed" ["low", "high", "start", "growth"] spNarrow) : FnOk P w K mg base CX0 5 f fd ["loop", "conditions", "n"] (spDT K) := by
  refine F.ok sc_done_turns (fun vs H Q E h => ?_) (fun cdv A outer s H vs Q E hr h => ?_)
  · obtain ⟨v, l, c0, ws, gds, n, rfl, _⟩ := h
    rfl
  · obtain ⟨v, l, c0, ws, gds, n, rfl, hL, ok, hcs, f2, gl, gok, k⟩ := h
    obtain ⟨tCYCLE, hCYCLE⟩ := U.cyc
    have tuT := U.tuple
    obtain ⟨fdm, Fm, hbm, cm⟩ := L.mt
    obtain ⟨fdo, Fo, hbo, co⟩ := L.co
    obtain ⟨fds, Fs, hbs, cs⟩ := C.calS
    obtain ⟨fdr, Fr, hbr, cr⟩ := HCo.rh
    refine ⟨_, PSs.nox (pss_cons (ps_set (i := 3) sc_done_turns.nd rfl (Or.inl rfl) pe_int)
      (pss_cons (ps_set (i := 4) sc_done_turns.nd rfl (Or.inl rfl) (pe_op op_sub (pe_meth (pv 0) T.clL cm Fm (hr.mono (by decide)) hbm .nil pass0 (pa_cons (pv 2) pa_nil)) pe_int))
      (pss_cons (ps_if (pt_cmpR op_lt (pv 4) pe_int (nomark _)) (pss_one (ps_ret (pe_tup (pa_cons (pv 3) (pa_cons (pv 4) (pa_cons (pe_tup pa_nil) pa_nil)))))) pss_nil)
      (pss_cons (ps_set (i := 5) sc_done_turns.nd rfl (Or.inr rfl) (pe_meth (pv 0) T.clL co Fo (hr.mono (by decide)) hbo .nil pass0 (pa_cons (pv 2) (pa_cons pe_int pa_nil))))
      (pss_cons (ps_set (i := 6) sc_done_turns.nd rfl (Or.inr rfl) (pe_ifExp (pt_val (pe_fld (pv 0) rfl)) (pe_un un_neg (pe_fld (pv 0) rfl)) (pe_fld (pv 0) rfl)))
      (pss_cons (ps_set (i := 7) sc_done_turns.nd rfl (Or.inl rfl) (pe_listRg rfl (by rfl) T.list (prg_1 (by rfl) T.range (pe_glob (v := .int 12) rfl hCYCLE ⟨tCYCLE, rfl⟩))))
      (pss_cons (ps_for PassesOwn.never rfl (pi_tup (pv 1)) (pg_name (i := 8) sc_done_turns.nd rfl (.inr rfl)) (pss_one (ps_if (pt_val (pe_callB call_isi (by rfl) T.isi (by decide +kernel) (pa_cons (pv 8) (pa_cons (pe_glob (v := .ref (CR K)) rfl T.gR rfl) pa_nil)))) (pss_one (ps_setLc (i := 7) (own := [("turn", 9)]) (g := gName 9) rfl sc_done_turns.nd rfl rfl (sw_true rfl rfl rfl (by decide +kernel)) (pi_list (pv 7)) (blkOk_by (N := ["loop", "conditions", "n", "low", "high", "first", "stride", "rests", "condition", "turn", "straight"]) (sc := defScope s_done_turns) (by decide +kernel)) (fun _ _ _ _ _ => (pg_name (i := 9) sc_done_turns.nd rfl (.inl rfl))) (fun _ _ _ _ _ => (pts_one (pt_val (pe_meth (pv 8) T.clQ cr Fr (hr.mono (by decide)) hbr .nil pass0 (pa_cons (pe_op op_add (pv 5) (pe_op op_mul (pv 6) (pv 9))) (pa_cons (pv 2) pa_nil)))))) (fun _ _ _ _ _ => (pv 9)))) (pss_cons (ps_set (i := 10) sc_done_turns.nd rfl (Or.inl rfl) (pe_fld (pv 8) rfl))
      (pss_one (ps_asg (pe_dn dNarrow hr (pa_cons (pv 3) (pa_cons (pv 4) (pa_cons (StX.pe_callO (pv 10) cs (FnOk.raw Fs hbs .nil) (hr.mono (by decide)) pass0 (pa_cons (pv 5) (pa_cons (pv 2) pa_nil))) (pa_cons (pe_op op_mul (pe_fld (pv 10) rfl) (pv 6)) pa_nil))))) (pg_tup (by rfl) (pgs_cons (pg_name (i := 3) sc_done_turns.nd rfl (.inl rfl)) (pgs_cons (pg_name (i := 4) sc_done_turns.nd rfl (.inl rfl)) pgs_nil)))))))))
      (pss_one (ps_ret (pe_ifExp (pt_truth (pv 7) (by intro _; rfl)) (pe_tup (pa_cons (pv 3) (pa_cons (pv 4) (pa_cons (pe_callTy call_tuple_of (by rfl) T.tuple (by decide +kernel) (pa_cons (pv 7) pa_nil)) pa_nil)))) (pe_tup (pa_cons pe_int (pa_cons (pe_un un_neg pe_int) (pa_cons (pe_tup pa_nil) pa_nil)))))))))))))), ?_⟩
    obtain ⟨p, dx, lo, hi, st, rfl, hp⟩ := hL.ref
    refine ⟨_, rfl, p, dx, _, rfl, hp, no_mt _ _ _ _ _, _, rfl, _, l, n, rfl, hL, ok, _, _, rfl, rfl, ?_⟩
    refine normG (σ' := [some (.ref p), some (.ref c0), some (.int n), some (.int 0), some (.int (lpN l n - 1)), none, none, none, none, none, none]) rfl ?_
    dsimp only
    refine ⟨_, rfl, _, _, rfl, rfl, _, rfl, ite2 (fun h1 => ?_) (fun h1 => ?_)⟩
    · have h1 : lpN l n - 1 < 0 := of_decide_eq_true h1
      unfold dtn at k
      rw [if_pos h1] at k
      refine ⟨_, rfl, _, rfl, sz0, fun e he => ⟨sz3, fun t ht => k t _ ((Same.new _ (Same.refl H) he).trans (Same.new _ (Same.refl _) ht)) ⟨e, upd_same, ?_⟩⟩⟩
      rw [upd_ne (ne_of_none upd_same ht)]
      exact upd_same
    · have h1 : ¬ lpN l n - 1 < 0 := fun z => h1 (decide_eq_true z)
      refine ⟨_, rfl, p, dx, _, rfl, hp, no_co _ _ _ _ _, _, rfl, _, l, n, 0, rfl, hL, ok, by omega, by omega, ?_⟩
      refine normG (σ' := [some (.ref p), some (.ref c0), some (.int n), some (.int 0), some (.int (lpN l n - 1)), some (.int (lpF l n)), none, none, none, none, none]) rfl ?_
      dsimp only
      refine mid (fun σ' H' => H' = H ∧ σ' = [some (.ref p), some (.ref c0), some (.int n), some (.int 0), some (.int (lpN l n - 1)), some (.int (lpF l n)), some (.int (lpS l)), none, none, none, none]) (fun key => ?_) ?_
      · refine ⟨_, rfl, p, _, dx, _, _, rfl, hp, T.clL, T.nDn, lp_dn _ _ _ _ _, ?_⟩
        unfold lpS at key
        cases hdn : l.dn
        · rw [hdn] at key
          exact ⟨_, rfl, iteF ⟨_, rfl, p, _, dx, _, _, rfl, hp, T.clL, T.nSp, lp_st _ _ _ _ _, key _ _ ⟨rfl, rfl⟩⟩⟩
        · rw [hdn] at key
          exact ⟨_, rfl, iteT ⟨_, rfl, p, _, dx, _, _, rfl, hp, T.clL, T.nSp, lp_st _ _ _ _ _, _, rfl, key _ _ ⟨rfl, rfl⟩⟩⟩
      rintro σ H2 ⟨rfl, rfl⟩
      refine ⟨_, rfl, RgOk.of_le (by decide) (by decide) (by decide) (by decide), fun R hR => ?_⟩
      refine normG (σ' := [some (.ref p), some (.ref c0), some (.int n), some (.int 0), some (.int (lpN l n - 1)), some (.int (lpF l n)), some (.int (lpS l)), some (.ref R), none, none, none]) rfl ?_
      dsimp only
      have S0 : 1 ≤ l.S ∧ l.S ≤ 16 := by
        obtain ⟨_, _, _, _, _, _, _, _, _, _, _, _, S0, S1, _⟩ := ok
        exact ⟨S0, S1⟩
      have stb : (lpS l).natAbs ≤ 16 := by
        unfold lpS
        split <;> omega
      obtain ⟨U0, hU0⟩ : ∃ U0 : Nat → Tn, U0 = fun j => dtAll (lpN l n) ((gds.take j).map (cdOf (lpF l n) (lpS l) n)) := ⟨_, rfl⟩
      have st0 : U0 0 = ⟨0, lpN l n - 1, [0, 1, 2, 3, 4, 5, 6, 7, 8, 9, 10, 11]⟩ := by rw [hU0]; rfl
      have stS : ∀ j g, gds[j]? = some g → U0 (j + 1) = dtStep (U0 j) (cdOf (lpF l n) (lpS l) n g) := by
        intro j g e
        rw [hU0]
        show dtAll _ _ = dtStep (dtAll _ _) _
        unfold dtAll
        rw [List.take_add_one, e, List.map_append, List.foldl_append]
        rfl
      have lws : ws.length = gds.length := f2.1
      refine ⟨_, rfl, c0, rfl, ⟨_, SqT.same hcs (Same.new _ (Same.refl H2) hR)⟩, ?_⟩
      refine for_tup (K := K) (xs := ws) (fun j σ H' => ∃ (R : Addr) (v8 v9 v10 : Option V), σ = [some (.ref p), some (.ref c0), some (.int n), some (.int (U0 j).lo), some (.int (U0 j).hi), some (.int (lpF l n)), some (.int (lpS l)), some (.ref R), v8, v9, v10] ∧ H' R = some (.lst ((U0 j).rs.map V.int)) ∧ Same H2 H')
        ⟨R, none, none, none, by rw [st0], by rw [st0]; exact upd_same, Same.new _ (Same.refl H2) hR⟩ (fun j σ H' _ z => by
          obtain ⟨R, v8, v9, v10, _, _, s'⟩ := z
          exact SqT.same hcs s') ?_ ?_
      · rintro j x σ H3 hx ⟨R, v8, v9, v10, rfl, hR3, s3⟩
        obtain ⟨g, eg, ob⟩ := (f2.imp fun _ _ z => z.same s3).at hx
        have gk := gok g (List.mem_of_getElem? eg)
        have eS := stS j g eg
        cases g with
        | lea a b c =>
          obtain ⟨q, rfl, dxa, qs, ha, hs⟩ := ob
          refine ⟨_, rfl, _, _, _, _, _, rfl, .own _, .base (.ins ha T.clA U.iA.ha U.iA.hn U.iA.ht U.iA.hm), U.kAR, _, rfl, iteF ?_⟩
          refine ⟨_, rfl, q, _, dxa, _, _, rfl, ha, T.clA, T.nAS, af_s _, ?_⟩
          refine normG (σ' := [some (.ref p), some (.ref c0), some (.int n), some (.int (U0 j).lo), some (.int (U0 j).hi), some (.int (lpF l n)), some (.int (lpS l)), some (.ref R), some (.ref q), v9, some (.ref qs)]) rfl ?_
          dsimp only
          obtain ⟨dxs, hs2⟩ := id hs
          refine ⟨_, rfl, _, rfl, _, rfl, qs, rfl, _, rfl, _, rfl, .inr ⟨_, _, hs2⟩, qs, _, _, _, lpF l n, n, rfl, hs, (sm_fd gk).1, (sm_fd gk).2, ?_⟩
          have ab : (a.fdiv (g2 a b)).natAbs ≤ 3 := by
            obtain ⟨h1, h2, h3, h4, _⟩ := gk
            by_cases z : g2 a b = 0
            · obtain ⟨rfl, rfl⟩ := g2_zero z
              rw [Int.zero_fdiv]
              decide
            · have ga := fdiv_bd (x := a) (M := 3) (g := (g2 a b : Int)) (by omega) (by decide) (by omega) (by omega)
              omega
          have gb : (a.fdiv (g2 a b) * lpS l).natAbs < 1073741824 := by
            rw [Int.natAbs_mul]
            exact Nat.lt_of_le_of_lt (Nat.mul_le_mul ab stb) (by decide)
          refine ⟨_, rfl, qs, _, dxs, _, _, rfl, hs2, T.clS, T.nI, sf_i _ _ _, _, rfl, _, _, rfl, rfl, .inl ⟨by omega, by omega⟩, ?_⟩
          refine ⟨_, _, _, _, rfl, gb, fun t H4 s4 ht4 => ?_⟩
          refine ⟨t, _, rfl, SqT.of ht4, rfl, _, _, rfl, _, _, rfl, rfl, ?_⟩
          exact ⟨R, some (.ref q), v9, some (.ref qs), by rw [eS]; rfl, by rw [eS]; exact s4 _ _ hR3, s3.trans s4⟩
        | rst a b c m r =>
          obtain ⟨q, rfl, dxa, qs, ha, hs⟩ := ob
          refine ⟨_, rfl, _, _, _, _, _, rfl, .own _, .base (.ins ha T.clQ U.iR.ha U.iR.hn U.iR.ht U.iR.hm), U.kRR, _, rfl, iteT ?_⟩
          refine ⟨_, rfl, R, rfl, ⟨_, SqL.of hR3⟩, fun D hD => ?_⟩
          refine lc_list (K := K) (xs := (U0 j).rs.map V.int) (fun b' Hb => Hb D = some (.lst ((((U0 j).rs.take b').filter fun t => Cd.at (cdOf (lpF l n) (lpS l) n (.rst a b c m r)) t).map V.int)) ∧ Same H3 Hb) ⟨upd_same, Same.new _ (Same.refl H3) hD⟩ (fun b' Hb _ z => SqL.of (z.2 _ _ hR3)) ?_ ?_
          · rintro b' v Hb hv ⟨eD, sb⟩
            rw [List.getElem?_map] at hv
            obtain ⟨y, hy, rfl⟩ := Option.map_eq_some_iff.mp hv
            have hb : b' < (U0 j).rs.length := (List.getElem?_eq_some_iff.mp hy).1
            have lim : ((U0 j).rs.take b').length ≤ 12 := by
              rw [List.length_take]
              have := dtAll_len (N := lpN l n) (cs := (gds.take j).map (cdOf (lpF l n) (lpS l) n))
              rw [hU0]
              exact Nat.le_trans (Nat.min_le_right _ _) this
            have limf : (((U0 j).rs.take b').filter fun t => Cd.at (cdOf (lpF l n) (lpS l) n (.rst a b c m r)) t).length ≤ 12 := Nat.le_trans (List.length_filter_le _ _) lim
            have step : (((U0 j).rs.take (b' + 1)).filter fun t => Cd.at (cdOf (lpF l n) (lpS l) n (.rst a b c m r)) t) = (((U0 j).rs.take b').filter fun t => Cd.at (cdOf (lpF l n) (lpS l) n (.rst a b c m r)) t) ++ if Cd.at (cdOf (lpF l n) (lpS l) n (.rst a b c m r)) y = true then [y] else [] := by
              rw [List.take_add_one, hy, List.filter_append]
              congr 1
              show [y].filter _ = _
              by_cases z : Cd.at (cdOf (lpF l n) (lpS l) n (.rst a b c m r)) y = true
              · rw [if_pos z, List.filter_cons_of_pos z]
                rfl
              · rw [if_neg z, List.filter_cons_of_neg z]
                rfl
            obtain ⟨dxs, hs2⟩ := id hs
            refine ⟨rfl, _, rfl, q, dxa, _, rfl, sb _ _ ha, rh_no _ _ _, _, rfl, _, rfl, _, rfl, _, _, rfl, rfl, .inl ⟨by omega, by omega⟩, _, _, rfl, rfl, _, rfl, q, _, _, _, _, _, n, rfl, ⟨dxa, qs, sb _ _ ha, dxs, sb _ _ hs2⟩, sm_fm gk.2.1 gk.2.2.1, sm_fm gk.2.1 gk.2.2.1, (by have := gk.2.1; omega), ?_⟩
            rw [rest_form (a := a) (b := b) (c := c) (i := lpF l n + lpS l * y) (n := n) gk.2.1 gk.2.2.1 gk.2.2.2.1 gk.2.2.2.2]
            have ec : decide ((a * (lpF l n + lpS l * y) + b * n + c).fmod m = r) = Cd.at (cdOf (lpF l n) (lpS l) n (.rst a b c m r)) y := by
              show _ = decide ((a * lpF l n + b * n + c + a * lpS l * y).fmod m = r)
              have e1 : a * (lpF l n + lpS l * y) + b * n + c = a * lpF l n + b * n + c + a * lpS l * y := by
                rw [Int.mul_add, Int.mul_assoc]
                omega
              rw [e1]
            rw [ec]
            refine ⟨_, rfl, ite2 (fun z => ?_) (fun z => ?_)⟩
            · rw [if_pos z] at step
              refine ⟨_, rfl, _, eD, sz1m _ (by rw [List.length_map]; omega), ?_, fun b'' o e => ?_⟩
              · rw [upd_same, step, List.map_append]
                rfl
              · rw [upd_ne (ne_of_none e hD)]
                exact sb _ _ e
            · rw [if_neg z, List.append_nil] at step
              rw [step]
              exact ⟨eD, sb⟩
          · rintro H4 ⟨eD, s4⟩
            rw [List.length_map, List.take_length] at eD
            exact ⟨D, some (.ref q), v9, v10, by rw [eS]; rfl, by rw [eS]; exact eD, s3.trans s4⟩
      · rintro σ H3 ⟨R, v8, v9, v10, rfl, hR3, s3⟩
        have fin : U0 ws.length = dtAll (lpN l n) (gds.map (cdOf (lpF l n) (lpS l) n)) := by
          rw [hU0, lws]
          show dtAll _ ((gds.take gds.length).map _) = _
          rw [List.take_length]
        unfold dtn at k
        rw [if_neg h1] at k
        rw [fin] at hR3 ⊢
        by_cases er : (dtAll (lpN l n) (gds.map (cdOf (lpF l n) (lpS l) n))).rs = []
        · rw [if_pos er] at k
          refine ⟨_, rfl, false, .inl ⟨_, SqL.of hR3, by rw [er]; rfl⟩, iteF ?_⟩
          refine ⟨_, rfl, sz0, fun e he => ⟨sz3, fun t ht => k t _ (s3.trans ((Same.new _ (Same.refl _) he).trans (Same.new _ (Same.refl _) ht))) ⟨e, upd_same, ?_⟩⟩⟩
          rw [upd_ne (ne_of_none upd_same ht)]
          exact upd_same
        · rw [if_neg er] at k
          refine ⟨_, rfl, true, .inl ⟨_, SqL.of hR3, ?_⟩, iteT ?_⟩
          · cases e2 : (dtAll (lpN l n) (gds.map (cdOf (lpF l n) (lpS l) n))).rs with
            | nil => exact absurd e2 er
            | cons x xs => rfl
          refine ⟨_, rfl, _, rfl, _, rfl, R, _, rfl, .inl ⟨SqL.of hR3, fun e he => ⟨sz3, fun t ht => k t _ (s3.trans ((Same.new _ (Same.refl _) he).trans (Same.new _ (Same.refl _) ht))) ⟨e, upd_same, ?_⟩⟩⟩⟩
          rw [upd_ne (ne_of_none upd_same ht)]
          exact upd_same
end
end K35
set_option maxHeartbeats 4000000
namespace K35
open PySem PySem.Spec PyProof.Rows L2 Z
abbrev W3 : Type := Int × Int × Int
def wD (w : W3) : PyData := .tuple [.int w.1, .int w.2.1, .int w.2.2]
def w1 (l : LpM) (n : Int) (j : Nat) (c : Int) (k : Nat) : List W3 := match l.sts[k]? with
  | some s => if stDone s c n = true then [((j : Int), c, (k : Int))] else []
  | none => []
def wS (l : LpM) (n : Int) (j : Nat) (c : Int) (m : Nat) : List W3 := (List.range m).flatMap (w1 l n j c)
def wC (l : LpM) (n : Int) (j : Nat) (m : Nat) : List W3 := ((lpCs l n).take m).flatMap fun c => wS l n j c l.sts.length
def wA (ls : List LpM) (n : Int) (m : Nat) : List W3 := (List.range m).flatMap fun j => match ls[j]? with
  | some l => wC l n j (lpCs l n).length
  | none => []
def works (ls : List LpM) (n : Int) : List W3 := wA ls n ls.length
section
variable {l : LpM} {ls : List LpM} {n c : Int} {j m : Nat}
theorem wS_succ : wS l n j c (m + 1) = wS l n j c m ++ w1 l n j c m := by
  unfold wS
  rw [List.range_succ, List.flatMap_append]
  simp
theorem wC_succ (h : (lpCs l n)[m]? = some c) : wC l n j (m + 1) = wC l n j m ++ wS l n j c l.sts.length := by
  unfold wC
  rw [List.take_add_one, h, List.flatMap_append]
  simp
theorem wA_succ (h : ls[m]? = some l) : wA ls n (m + 1) = wA ls n m ++ wC l n m (lpCs l n).length := by
  unfold wA
  rw [List.range_succ, List.flatMap_append]
  simp [h]
theorem w1_len : (w1 l n j c m).length ≤ 1 := by
  unfold w1
  split
  · split <;> simp
  · simp
theorem wS_len : (wS l n j c m).length ≤ m := by
  induction m with
  | zero => simp [wS]
  | succ m ih =>
    rw [wS_succ, List.length_append]
    have := w1_len (l := l) (n := n) (j := j) (c := c) (m := m)
    omega
theorem wC_len : (wC l n j m).length ≤ m * l.sts.length := by
  induction m with
  | zero => simp [wC]
  | succ m ih =>
    cases h : (lpCs l n)[m]? with
    | some c =>
      rw [wC_succ h, List.length_append, Nat.succ_mul]
      have := wS_len (l := l) (n := n) (j := j) (c := c) (m := l.sts.length)
      omega
    | none =>
      have e : wC l n j (m + 1) = wC l n j m := by
        unfold wC
        rw [List.take_add_one, h]
        simp
      rw [e, Nat.succ_mul]
      omega
end
def cols (l : LpM) (n : Int) : List Tn := l.sts.map fun s => dtn l n s.gds
def ctr (l : LpM) (n t : Int) : Int := lpL l n + (if l.dn = true then lpN l n - 1 - t else t) * l.S
theorem lpN_0 (l : LpM) (n : Int) : 0 ≤ lpN l n := by
  unfold lpN mt_
  split <;> omega
theorem ctr_is (l : LpM) (n t : Int) : lpF l n + lpS l * t = ctr l n t := by
  unfold lpF lpS ctr
  cases l.dn
  · simp only [Bool.false_eq_true, if_false]
    rw [Int.zero_mul, Int.mul_comm l.S t]
    omega
  · simp only [if_true]
    have e : (lpN l n - 1 - t) * l.S = (lpN l n - 1 - 0) * l.S + -l.S * t := by
      rw [Int.neg_mul, Int.mul_comm l.S t, Int.sub_mul, Int.sub_mul _ 0, Int.zero_mul]
      omega
    rw [e]
    omega
theorem cdOf_at (l : LpM) (n t : Int) (g : Gd) : (cdOf (lpF l n) (lpS l) n g).at t = gdV g (ctr l n t) n := by
  rw [← ctr_is]
  cases g with
  | lea a b c =>
    show decide (0 ≤ a.fdiv (g2 a b) * lpF l n + b.fdiv (g2 a b) * n + lf3 a b c + a.fdiv (g2 a b) * lpS l * t) = decide (0 ≤ a * (lpF l n + lpS l * t) + b * n + c)
    rw [← least_form]
    have e : a.fdiv (g2 a b) * (lpF l n + lpS l * t) + b.fdiv (g2 a b) * n + lf3 a b c = a.fdiv (g2 a b) * lpF l n + b.fdiv (g2 a b) * n + lf3 a b c + a.fdiv (g2 a b) * lpS l * t := by
      rw [Int.mul_add, Int.mul_assoc]
      omega
    rw [e]
  | rst a b c m r =>
    show decide ((a * lpF l n + b * n + c + a * lpS l * t).fmod m = r) = decide ((a * (lpF l n + lpS l * t) + b * n + c).fmod m = r)
    have e : a * (lpF l n + lpS l * t) + b * n + c = a * lpF l n + b * n + c + a * lpS l * t := by
      rw [Int.mul_add, Int.mul_assoc]
      omega
    rw [e]
theorem cds_ok {f st n : Int} {gds : List Gd} (gok : ∀ g ∈ gds, GdOk g) : ∀ c ∈ gds.map (cdOf f st n), c.Ok := by
  intro c hc
  obtain ⟨g, hg, rfl⟩ := List.mem_map.mp hc
  have gk := gok g hg
  cases g with
  | lea a b c => exact trivial
  | rst a b c m r =>
    obtain ⟨_, h1, h2, _⟩ := gk
    show m = 1 ∨ m = 2 ∨ m = 3 ∨ m = 4
    omega
theorem none_has {T : Tn} {t : Int} (h : T.rs = []) : T.has t = false := next_none (t := 0) h
theorem dtn_has {l : LpM} {n t : Int} {gds : List Gd} (gok : ∀ g ∈ gds, GdOk g) : (dtn l n gds).has t = (decide (0 ≤ t) && decide (t < lpN l n) && gds.all fun g => gdV g (ctr l n t) n) := by
  have base : (dtAll (lpN l n) (gds.map (cdOf (lpF l n) (lpS l) n))).has t = (decide (0 ≤ t) && decide (t < lpN l n) && gds.all fun g => gdV g (ctr l n t) n) := by
    rw [dtAll_has (cds_ok gok), List.all_map]
    congr 1
    congr 1
    funext g
    exact cdOf_at l n t g
  unfold dtn
  by_cases h : lpN l n - 1 < 0
  · rw [if_pos h, none_has rfl]
    by_cases z : 0 ≤ t
    · rw [decide_eq_false (show ¬ t < lpN l n by omega), Bool.and_false, Bool.false_and]
    · rw [decide_eq_false z, Bool.false_and, Bool.false_and]
  · rw [if_neg h]
    by_cases z : (dtAll (lpN l n) (gds.map (cdOf (lpF l n) (lpS l) n))).rs = []
    · rw [if_pos z, none_has rfl, ← base, none_has z]
    · rw [if_neg z]
      exact base
theorem dtAll_hi1 {N : Int} (hN : 0 ≤ N) : ∀ {cs : List Cd}, (dtAll N cs).hi ≤ N - 1 := by
  intro cs
  unfold dtAll
  have all : ∀ (cs : List Cd) (T : Tn), T.hi ≤ N - 1 → (cs.foldl dtStep T).hi ≤ N - 1 := by
    intro cs
    induction cs with
    | nil => intro T h; exact h
    | cons c cs ih =>
      intro T h
      refine ih _ ?_
      cases c with
      | lea x g =>
        show (narrowL T.lo T.hi x g).2 ≤ N - 1
        unfold narrowL
        split
        · exact h
        · split
          · exact Int.le_trans (Int.min_le_left _ _) h
          · split
            · exact h
            · show (-1 : Int) ≤ N - 1
              omega
      | rst x s m r => exact h
  exact all cs _ (Int.le_refl _)
structure TnGood (T : Tn) : Prop where
  rs : RsOk T.rs
  lo : 0 ≤ T.lo
  len : T.rs.length ≤ 12
theorem rs0 : RsOk [] := ⟨List.nodup_nil, fun _ h => by cases h⟩
theorem dtn_good {l : LpM} {n : Int} {gds : List Gd} : TnGood (dtn l n gds) ∧ (dtn l n gds).hi + 1 ≤ lpN l n := by
  have N0 := lpN_0 l n
  unfold dtn
  by_cases h : lpN l n - 1 < 0
  · rw [if_pos h]
    exact ⟨⟨rs0, Int.le_refl _, Nat.zero_le _⟩, by show lpN l n - 1 + 1 ≤ _; omega⟩
  · rw [if_neg h]
    split
    · exact ⟨⟨rs0, Int.le_refl _, Nat.zero_le _⟩, by show (-1 : Int) + 1 ≤ _; omega⟩
    · have q := dtAll_ok (N := lpN l n) (cs := gds.map (cdOf (lpF l n) (lpS l) n)) N0
      have h2 := dtAll_hi1 (N := lpN l n) N0 (cs := gds.map (cdOf (lpF l n) (lpS l) n))
      exact ⟨⟨q.1, q.2, dtAll_len⟩, by omega⟩
def CGood (cs : List Tn) : Prop := ∀ T ∈ cs, TnGood T
theorem cols_good {l : LpM} {n : Int} : CGood (cols l n) := by
  intro T hT
  obtain ⟨s, _, rfl⟩ := List.mem_map.mp hT
  exact dtn_good.1
theorem cols_hi {l : LpM} {n : Int} : ∀ T ∈ cols l n, T.hi + 1 ≤ ((lpN l n).toNat : Int) := by
  intro T hT
  obtain ⟨s, _, rfl⟩ := List.mem_map.mp hT
  have := (dtn_good (l := l) (n := n) (gds := s.gds)).2
  have N0 := lpN_0 l n
  omega
theorem CGood.ok {cs : List Tn} (h : CGood cs) : ∀ T ∈ cs, RsOk T.rs ∧ 0 ≤ T.lo := fun T hT => ⟨(h T hT).rs, (h T hT).lo⟩
theorem mB_is {T : Tn} (h : TnGood T) (t : Int) : mBefore T t = (T.below t : Int) := by
  by_cases t0 : 0 ≤ t
  · exact mBefore_is h.rs h.lo t0
  · have hl := h.lo
    have e1 : T.below t = 0 := by
      unfold Tn.below
      rw [show t.toNat = 0 by omega]
      rfl
    unfold mBefore
    rw [fdiv12, if_pos (by omega), e1]
    rfl
theorem wBelow_is {cs : List Tn} (h : CGood cs) (t : Int) : (cs.map fun T => mBefore T t).sum = (wb cs t.toNat : Int) := by
  unfold wb
  induction cs with
  | nil => rfl
  | cons T cs ih =>
    rw [List.map_cons, List.map_cons, List.sum_cons, List.sum_cons, ih fun T hT => h T (List.mem_cons_of_mem _ hT), mB_is (h T List.mem_cons_self)]
    have e : T.below t = T.below (t.toNat : Int) := by
      unfold Tn.below
      rw [show ((t.toNat : Nat) : Int).toNat = t.toNat by omega]
    rw [e]
    omega
theorem wIn_is {cs : List Tn} (h : CGood cs) : (cs.map fun T => mBefore T (T.hi + 1)).sum = (allOf cs : Int) := by
  unfold allOf
  induction cs with
  | nil => rfl
  | cons T cs ih =>
    rw [List.map_cons, List.map_cons, List.sum_cons, List.sum_cons, ih fun T hT => h T (List.mem_cons_of_mem _ hT), mB_is (h T List.mem_cons_self)]
    omega
theorem lpCs_at {l : LpM} {n : Int} {t : Nat} (h : t < (lpN l n).toNat) : (lpCs l n)[t]? = some (ctr l n t) := by
  unfold lpCs due
  rw [List.getElem?_map, List.getElem?_range h, Option.map_some]
  unfold ctr
  have e : ((lpN l n).toNat : Int) = lpN l n := by omega
  rw [e]
theorem lpCs_n (l : LpM) (n : Int) : (lpCs l n).length = (lpN l n).toNat := by
  unfold lpCs due
  rw [List.length_map, List.length_range]
theorem fm_if {α β : Type} {p : α → Bool} {f : α → β} : ∀ xs : List α, (xs.flatMap fun x => if p x = true then [f x] else []) = (xs.filter p).map f
  | [] => rfl
  | x :: xs => by
    rw [List.flatMap_cons, fm_if xs]
    by_cases h : p x = true
    · rw [if_pos h, List.filter_cons_of_pos h]
      rfl
    · rw [if_neg h, List.filter_cons_of_neg h]
      rfl
theorem dnAt_is {l : LpM} {n : Int} {t k : Nat} (ok : ∀ s ∈ l.sts, StOk s) (h : t < (lpN l n).toNat) : dnAt (cols l n) t k = match l.sts[k]? with
    | some s => stDone s (ctr l n t) n
    | none => false := by
  unfold dnAt cols
  rw [List.getElem?_map]
  cases e : l.sts[k]? with
  | none => rfl
  | some s =>
    show (dtn l n s.gds).has (t : Int) = stDone s (ctr l n t) n
    have oks := ok s (List.mem_of_getElem? e)
    rw [dtn_has oks.2.2.2.2.2.2.2, decide_eq_true (show (0 : Int) ≤ (t : Int) by omega), decide_eq_true (show (t : Int) < lpN l n by omega), Bool.true_and, Bool.true_and]
    rfl
theorem wS_dn {l : LpM} {n : Int} {j t : Nat} (ok : ∀ s ∈ l.sts, StOk s) (h : t < (lpN l n).toNat) : wS l n j (ctr l n t) l.sts.length = (dn (cols l n) t).map fun k => ((j : Int), ctr l n t, ((k : Nat) : Int)) := by
  unfold wS dn
  rw [← fm_if]
  have lc : (cols l n).length = l.sts.length := List.length_map ..
  rw [lc]
  congr 1
  funext k
  rw [dnAt_is ok h]
  unfold w1
  cases e : l.sts[k]? with
  | none => rfl
  | some s => rfl
theorem wC_wl {l : LpM} {n : Int} {j : Nat} (ok : ∀ s ∈ l.sts, StOk s) : ∀ m, m ≤ (lpN l n).toNat → wC l n j m = (wl (cols l n) m).map fun q => ((j : Int), ctr l n q.1, ((q.2 : Nat) : Int))
  | 0, _ => rfl
  | m + 1, h => by
    rw [wC_succ (lpCs_at (by omega)), wC_wl ok m (by omega), wl_succ, List.map_append, wS_dn ok (by omega), List.map_map]
    rfl
/-- how many works the loops ahead of a do -/
def pre (tabs : List (List Tn)) (a : Nat) : Nat := ((tabs.take a).map allOf).sum
theorem pre_succ {tabs : List (List Tn)} {a : Nat} {cs : List Tn} (h : tabs[a]? = some cs) : pre tabs (a + 1) = pre tabs a + allOf cs := by
  unfold pre
  rw [List.take_add_one, h, List.map_append, List.sum_append]
  simp
def tabsOf (ls : List LpM) (n : Int) : List (List Tn) := ls.map fun l => cols l n
theorem wC_len2 {l : LpM} {n : Int} {j : Nat} (ok : ∀ s ∈ l.sts, StOk s) : (wC l n j (lpCs l n).length).length = allOf (cols l n) := by
  rw [lpCs_n, wC_wl ok _ (Nat.le_refl _), List.length_map, wl_len]
  exact wb_all (fun T hT => (cols_good T hT).lo) cols_hi
theorem wA_pre {ls : List LpM} {n : Int} (ok : ∀ l ∈ ls, ∀ s ∈ l.sts, StOk s) : ∀ m, (wA ls n m).length = pre (tabsOf ls n) m
  | 0 => rfl
  | m + 1 => by
    cases e : ls[m]? with
    | some l =>
      rw [wA_succ e, List.length_append, wA_pre ok m, wC_len2 (ok l (List.mem_of_getElem? e)), pre_succ (cs := cols l n) (by unfold tabsOf; rw [List.getElem?_map, e]; rfl)]
    | none =>
      have h1 : wA ls n (m + 1) = wA ls n m := by
        unfold wA
        rw [List.range_succ, List.flatMap_append]
        simp [e]
      have h2 : pre (tabsOf ls n) (m + 1) = pre (tabsOf ls n) m := by
        unfold pre tabsOf
        rw [List.take_add_one, List.getElem?_map, e]
        simp
      rw [h1, h2]
      exact wA_pre ok m
theorem wA_pref {ls : List LpM} {n : Int} {a b : Nat} (h : a ≤ b) : ∃ r, wA ls n b = wA ls n a ++ r := by
  obtain ⟨d, rfl⟩ : ∃ d, b = a + d := ⟨b - a, by omega⟩
  clear h
  induction d with
  | zero => exact ⟨[], by simp⟩
  | succ d ih =>
    obtain ⟨r, hr⟩ := ih
    unfold wA at hr ⊢
    rw [show a + (d + 1) = a + d + 1 by omega, List.range_succ, List.flatMap_append, hr]
    exact ⟨_, List.append_assoc _ _ _⟩
/-- the work at a number -/
theorem works_at {ls : List LpM} {l : LpM} {n : Int} {a t i k : Nat} (ok : ∀ l ∈ ls, ∀ s ∈ l.sts, StOk s) (ha : ls[a]? = some l) (ht : t < (lpN l n).toNat) (hk : (dn (cols l n) t)[i]? = some k) :
    (works ls n)[pre (tabsOf ls n) a + (wb (cols l n) t + i)]? = some ((a : Int), ctr l n t, (k : Int)) := by
  have okl := ok l (List.mem_of_getElem? ha)
  have al : a < ls.length := (List.getElem?_eq_some_iff.mp ha).1
  obtain ⟨r, hr⟩ := wA_pref (ls := ls) (n := n) (a := a + 1) (b := ls.length) (by omega)
  have q := wl_at (N := (lpN l n).toNat) ht hk
  unfold works
  rw [hr, wA_succ ha, lpCs_n, wC_wl okl _ (Nat.le_refl _), List.append_assoc, List.getElem?_append_right (by rw [wA_pre ok]; omega), wA_pre ok, List.getElem?_append_left (by
    rw [List.length_map]
    have := (List.getElem?_eq_some_iff.mp q).1
    omega), List.getElem?_map, show pre (tabsOf ls n) a + (wb (cols l n) t + i) - pre (tabsOf ls n) a = wb (cols l n) t + i by omega, q]
  rfl
end K35
set_option maxHeartbeats 4000000
namespace K35
open PySem PySem.Spec PyProof.Rows L2 Z
/-- a number, or something else of a plain kind -/
inductive IntV (H : Hp) : V → Bool → Prop where
  | int (i : Int) : IntV H (.int i) true
  | bl (b : Bool) : IntV H (.bl b) false
  | str (x : Str) : IntV H (.str x) false
  | non : IntV H .non false
  | tup {t : Addr} {xs : List V} (h : H t = some (.tup xs)) : IntV H (.ref t) false
def spIsIntA : Sp := fun vs H Q _ => ∃ (v : V) (b : Bool), vs = [v] ∧ IntV H v b ∧ Q (.bl b) H
def spIntFromA : Sp := fun vs H Q _ => ∃ (v : V) (lo hi : Int), vs = [v, .int lo, .int hi] ∧ ((∃ i : Int, v = .int i ∧ Q (.bl (decide (lo ≤ i ∧ i ≤ hi))) H) ∨ (IntV H v false ∧ Q (.bl false) H))
def TOP : Int := 1000000000000000000000000000000
def spIsSize : Sp := fun vs H Q _ => ∃ v : V, vs = [v] ∧ ((∃ i : Int, v = .int i ∧ Q (.bl (decide (0 ≤ i ∧ i ≤ TOP))) H) ∨ (IntV H v false ∧ Q (.bl false) H))
/-- how many turns in all -/
def tot (ls : List LpM) (n : Int) : Int := (ls.map fun l => lpN l n).sum
/-- an own error, its fields in order, is raised; all else as it was -/
def RzV (K : PySem.W.Frag) (x : Str) (fs : List Str) (vs : List V) (H : Hp) (E : XK) : Prop := ∀ (d : Addr) (H' : Hp), Same H H' → H' d = some (.xd (fs.zip vs).reverse) → E (.ref (He.ga K x)) (some d) H'
theorem RzV.same {K : PySem.W.Frag} {x : Str} {fs : List Str} {vs : List V} {H H1 : Hp} {E : XK} (h : RzV K x fs vs H E) (s : Same H H1) : RzV K x fs vs H1 E := fun d H' s' hd => h d H' (s.trans s') hd
theorem kbi {K : PySem.W.Frag} : PySem.W.kitOne K (.type "bool") (.type "int") = some true := kit_ty (by decide +kernel)
theorem kbb {K : PySem.W.Frag} : PySem.W.kitOne K (.type "bool") (.type "bool") = some true := kit_ty (by decide +kernel)
theorem ksi {K : PySem.W.Frag} : PySem.W.kitOne K (.type "str") (.type "int") = some false := kit_ty (by decide +kernel)
theorem kni {K : PySem.W.Frag} : PySem.W.kitOne K (.type "NoneType") (.type "int") = some false := kit_ty (by decide +kernel)
theorem kti {K : PySem.W.Frag} : PySem.W.kitOne K (.type "tuple") (.type "int") = some false := kit_ty (by decide +kernel)
section
variable {P : Program} {w : World} {K : PySem.W.Frag} {mg : Str → Option Value} {base : Heap}
theorem ok_isIntA {f : Addr} {fd : FuncData} (F : FnP K "is_integer" s_is_integer f fd) (T : StTx K mg) : FnOk P w K mg base CX0 1 f fd ["value"] spIsIntA := by
  refine F.ok sc_is_integer (fun vs H Q E h => ?_) (fun cdv A outer s H vs Q E hr h => ?_)
  · obtain ⟨v, b, rfl, _⟩ := h
    rfl
  · obtain ⟨v, b, rfl, h, q⟩ := h
    refine ⟨_, PSs.nox (pss_one (ps_ret (pe_and (pe_callB call_isi (by rfl) T.isi (by decide +kernel) (pa_cons (pv 0) (pa_cons (pe_bltn (v := .ty "int") (by rfl) T.int (by decide +kernel) rfl) pa_nil))) (pe_one (pe_not (pe_callB call_isi (by rfl) T.isi (by decide +kernel) (pa_cons (pv 0) (pa_cons (pe_bltn (v := .ty "bool") (by rfl) T.bool (by decide +kernel) rfl) pa_nil)))))))), ?_⟩
    cases h with
    | int i =>
      refine ⟨_, rfl, _, _, _, _, _, rfl, .ty _, .base (.int i), kii, _, rfl, iteT ?_⟩
      exact ⟨_, rfl, _, _, _, _, _, rfl, .ty _, .base (.int i), kib, _, rfl, q⟩
    | bl b =>
      refine ⟨_, rfl, _, _, _, _, _, rfl, .ty _, .base (.bl b), kbi, _, rfl, iteT ?_⟩
      exact ⟨_, rfl, _, _, _, _, _, rfl, .ty _, .base (.bl b), kbb, _, rfl, q⟩
    | str x => exact ⟨_, rfl, _, _, _, _, _, rfl, .ty _, .base (.str x), ksi, _, rfl, iteF q⟩
    | non => exact ⟨_, rfl, _, _, _, _, _, rfl, .ty _, .base .non, kni, _, rfl, iteF q⟩
    | tup ht => exact ⟨_, rfl, _, _, _, _, _, rfl, .ty _, .base (.tup ht), kti, _, rfl, iteF q⟩
theorem ok_intFromA {f : Addr} {fd : FuncData} (F : FnP K "is_integer_from" s_is_integer_from f fd) (dIsInt : Dn P w K mg base 1 "is_integer" ["value"] spIsIntA) : FnOk P w K mg base CX0 2 f fd ["value", "low", "high"] spIntFromA := by
  refine F.ok sc_is_integer_from (fun vs H Q E h => ?_) (fun cdv A outer s H vs Q E hr h => ?_)
  · obtain ⟨v, lo, hi, rfl, _⟩ := h
    rfl
  · obtain ⟨v, lo, hi, rfl, k⟩ := h
    refine ⟨_, PSs.nox (pss_one (ps_ret (pe_and (pe_dn dIsInt hr (pa_cons (pv 0) pa_nil)) (pe_one (pe_chain op_le op_le (pv 1) (pv 0) (pv 2)))))), ?_⟩
    rcases k with ⟨i, rfl, k⟩ | ⟨iv, k⟩
    · refine ⟨_, rfl, _, _, rfl, .int _, _, rfl, iteT ?_⟩
      refine ⟨_, rfl, _, rfl, _, _, rfl, rfl, _, rfl, ite2 (fun h => ?_) (fun h => ?_)⟩
      · have h1 : lo ≤ i := of_decide_eq_true h
        refine ⟨_, rfl, _, _, rfl, rfl, ?_⟩
        rw [show decide (lo ≤ i ∧ i ≤ hi) = decide (i ≤ hi) from decide_eq_decide.mpr ⟨fun z => z.2, fun z => ⟨h1, z⟩⟩] at k
        exact k
      · have h1 : ¬ lo ≤ i := fun z => h (decide_eq_true z)
        rw [decide_eq_false (fun z => h1 z.1)] at k
        exact k
    · exact ⟨_, rfl, _, _, rfl, iv, _, rfl, iteF k⟩
theorem sc_is_size : FnScope ["value"] ["value"] (defScope s_is_size) := ⟨rfl, rfl, rfl, by decide +kernel, rfl, by decide +kernel, by decide +kernel⟩
theorem ok_isSize {f : Addr} {fd : FuncData} (F : FnP K "is_size" s_is_size f fd) (T : LwTx K mg) (hTOP_SIZE : ∃ t, mg "TOP_SIZE" = some (.int TOP t)) (dIsIntFrom : Dn P w K mg base 2 "is_integer_from" ["value", "low", "high"] spIntFromA) : FnOk P w K mg base CX0 3 f fd ["value"] spIsSize := by
  refine F.ok sc_is_size (fun vs H Q E h => ?_) (fun cdv A outer s H vs Q E hr h => ?_)
  · obtain ⟨v, rfl, _⟩ := h
    rfl
  · obtain ⟨v, rfl, k⟩ := h
    obtain ⟨tTOP_SIZE, hTOP_SIZE⟩ := hTOP_SIZE
    refine ⟨_, PSs.nox (pss_one (ps_ret (pe_dn dIsIntFrom hr (pa_cons (pv 0) (pa_cons pe_int (pa_cons (pe_glob (v := .int 1000000000000000000000000000000) rfl hTOP_SIZE ⟨tTOP_SIZE, rfl⟩) pa_nil)))))), ?_⟩
    exact ⟨_, rfl, _, _, _, rfl, k⟩
end
theorem prf_l (l a d : Addr) : (prf l a d).lookup ("loops" : Str) = some (.ref l) := by
  unfold prf prf2
  rw [lookup_putF, if_neg (by decide +kernel), lookup_putF, if_neg (by decide +kernel), lookup_putF, if_pos rfl]
theorem call_len_seqK {X : Cx} {K : PySem.W.Frag} (hK : X.K = K) : CallR X (.builtin "len") (fun xs H Q => ∃ p ys, xs = [V.ref p] ∧ (SqL K H p ys ∨ SqT K H p ys) ∧ Q (V.int (ys.length : Nat)) H) := hK ▸ call_len_seq
def spCkZ (K : PySem.W.Frag) : Sp := fun vs H Q E => ∃ nv : V, vs = [nv] ∧ ((IntV H nv false ∧ RzV K "BadSize" ["n"] [nv] H E) ∨ ∃ n : Int, nv = .int n ∧ (¬ (0 ≤ n ∧ n ≤ TOP) → RzV K "BadSize" ["n"] [.int n] H E) ∧ (0 ≤ n ∧ n ≤ TOP → Q .non H))
def spCkL (K : PySem.W.Frag) : Sp := fun vs H Q E => ∃ (v : V) (ls : List LpM) (a : Int), vs = [v, .int a] ∧ PrOb K H v ls ∧ (¬ (0 ≤ a ∧ a ≤ (ls.length : Int) - 1) → RzV K "NoLoop" ["loop"] [.int a] H E) ∧ (0 ≤ a ∧ a ≤ (ls.length : Int) - 1 → Q .non H)
def spCkSt (K : PySem.W.Frag) : Sp := fun vs H Q E => ∃ (v : V) (ls : List LpM) (a : Int) (sv : V), vs = [v, .int a, sv] ∧ PrOb K H v ls ∧ (¬ (0 ≤ a ∧ a ≤ (ls.length : Int) - 1) → RzV K "NoLoop" ["loop"] [.int a] H E) ∧
  ∀ (j : Nat) (l : LpM), a = (j : Int) → ls[j]? = some l → (IntV H sv false ∧ RzV K "NoStatement" ["loop", "statement"] [.int a, sv] H E) ∨ ∃ k : Int, sv = .int k ∧ (¬ (0 ≤ k ∧ k ≤ (l.sts.length : Int) - 1) → RzV K "NoStatement" ["loop", "statement"] [.int a, .int k] H E) ∧ (0 ≤ k ∧ k ≤ (l.sts.length : Int) - 1 → Q .non H)
/-- the columns stand in a list -/
def ColV (H : Hp) (v : V) (cs : List Tn) : Prop := ∃ l xs, v = .ref l ∧ Cols H l xs cs
theorem Cols.same {H H' : Hp} {l : Addr} {xs : List V} {cs : List Tn} (h : Cols H l xs cs) (s : Same H H') : Cols H' l xs cs := ⟨s _ _ h.1, h.2.1.to (.of s), h.2.2⟩
theorem ColV.same {H H' : Hp} {v : V} {cs : List Tn} (h : ColV H v cs) (s : Same H H') : ColV H' v cs := by
  obtain ⟨l, xs, e, h⟩ := h
  exact ⟨l, xs, e, h.same s⟩
def spTOL (K : PySem.W.Frag) : Sp := fun vs H Q _ => ∃ (v : V) (l : LpM) (n : Int), vs = [v, .int n] ∧ LpOb K H v l ∧ LpOk l ∧ ∀ p H', Same H H' → H p = none → ColV H' (.ref p) (cols l n) → Q (.ref p) H'
def TabV (H : Hp) (p : Addr) (tabs : List (List Tn)) : Prop := ∃ ps, H p = some (.lst ps) ∧ Fa (ColV H) ps tabs
theorem TabV.same {H H' : Hp} {p : Addr} {tabs : List (List Tn)} (h : TabV H p tabs) (s : Same H H') : TabV H' p tabs := by
  obtain ⟨ps, h1, h2⟩ := h
  exact ⟨ps, s _ _ h1, h2.imp fun _ _ z => z.same s⟩
def spTO (K : PySem.W.Frag) : Sp := fun vs H Q _ => ∃ (v : V) (ls : List LpM) (n : Int), vs = [v, .int n] ∧ PrOb K H v ls ∧ ls.length ≤ 6 ∧ (∀ l ∈ ls, LpOk l) ∧ ∀ p H', Same H H' → TabV H' p (tabsOf ls n) → Q (.ref p) H'
theorem tn_dt {H : Hp} {t : Addr} {T : Tn} (h : TnAt H t T) : DT H (.ref t) (tnD T) := by
  obtain ⟨r, h1, h2⟩ := h
  exact .tup h1 (.cons (.int _) (.cons (.int _) (.cons (.tup h2 (DTs.ints _)) .nil)))
theorem lpOk_st {l : LpM} (h : LpOk l) : l.sts.length ≤ 3 ∧ ∀ s ∈ l.sts, StOk s := by
  obtain ⟨_, _, _, _, _, _, _, _, _, _, _, _, _, _, _, _, n3, okS⟩ := h
  exact ⟨n3, okS⟩
theorem cols_len {l : LpM} {n : Int} : (cols l n).length = l.sts.length := List.length_map ..
section
variable {P : Program} {w : World} {K : PySem.W.Frag} {mg : Str → Option Value} {base : Heap}
theorem sc_check_size : FnScope ["n"] ["n"] (defScope s_check_size) := ⟨rfl, rfl, rfl, by decide +kernel, rfl, by decide +kernel, by decide +kernel⟩
theorem ok_ckZ {f : Addr} {fd : FuncData} (F : FnP K "check_size" s_check_size f fd) (MZ : Mx P w K mg base "BadSize" ["self", "n"] ["n"]) (dIsSize : Dn P w K mg base 3 "is_size" ["value"] spIsSize) : FnOk P w K mg base (L2.CX P w) 4 f fd ["n"] (spCkZ K) := by
  refine F.ok sc_check_size (fun vs H Q E h => ?_) (fun cdv A outer s H vs Q E hr h => ?_)
  · obtain ⟨nv, rfl, _⟩ := h
    rfl
  · obtain ⟨nv, rfl, k⟩ := h
    refine ⟨_, (pss_one (ps_if (pt_not (pt_val (pe_dn dIsSize hr (pa_cons (pv 0) pa_nil)))) (pss_one (ps_raise rfl (takes_of rfl rfl rfl rfl) (pmk_err MZ hr (pa_cons (pv 0) pa_nil)))) pss_nil)), ?_⟩
    have bad : ∀ nv : V, RzV K "BadSize" ["n"] [nv] H E → _ := fun nv z => err_go (K := K) (x := "BadSize") (fs := ["n"]) (vs := [nv]) (H1 := H) (Q := E) (by show 1 ≤ 1000; decide) rfl z
    rcases k with ⟨iv, k⟩ | ⟨n, rfl, k1, k2⟩
    · exact ⟨_, rfl, _, rfl, .inr ⟨iv, _, rfl, iteT ⟨_, rfl, bad _ k⟩⟩⟩
    · refine ⟨_, rfl, _, rfl, .inl ⟨n, rfl, _, rfl, ?_⟩⟩
      by_cases hn : 0 ≤ n ∧ n ≤ TOP
      · rw [decide_eq_true hn]
        exact iteF (k2 hn)
      · rw [decide_eq_false hn]
        exact iteT ⟨_, rfl, bad _ (k1 hn)⟩
theorem sc_check_loop : FnScope ["program", "loop"] ["program", "loop"] (defScope s_check_loop) := ⟨rfl, rfl, rfl, by decide +kernel, rfl, by decide +kernel, by decide +kernel⟩
theorem ok_ckL {f : Addr} {fd : FuncData} (F : FnP K "check_loop" s_check_loop f fd) (T : LwTx K mg) (ML : Mx P w K mg base "NoLoop" ["self", "loop"] ["loop"]) (dIsIntFrom : Dn P w K mg base 2 "is_integer_from" ["value", "low", "high"] spIntFromA) : FnOk P w K mg base (L2.CX P w) 4 f fd ["program", "loop"] (spCkL K) := by
  refine F.ok sc_check_loop (fun vs H Q E h => ?_) (fun cdv A outer s H vs Q E hr h => ?_)
  · obtain ⟨v, ls, a, rfl, _⟩ := h
    rfl
  · obtain ⟨v, ls, a, rfl, ⟨p, xs, ys, rfl, ⟨dx, lt, at_, dk, hp, hlt, hat⟩, fa⟩, k1, k2⟩ := h
    refine ⟨_, (pss_one (ps_if (pt_not (pt_val (pe_dn dIsIntFrom hr (pa_cons (pv 1) (pa_cons pe_int (pa_cons (pe_op op_sub (pe_callB (call_len_seqK (K := K) rfl) (by rfl) T.len PySem.boot_len (pa_cons (pe_fld (pv 0) rfl) pa_nil)) pe_int) pa_nil)))))) (pss_one (ps_raise rfl (takes_of rfl rfl rfl rfl) (pmk_err ML hr (pa_cons (pv 1) pa_nil)))) pss_nil)), ?_⟩
    have bad : RzV K "NoLoop" ["loop"] [.int a] H E → _ := fun z => err_go (K := K) (x := "NoLoop") (fs := ["loop"]) (vs := [.int a]) (H1 := H) (Q := E) (by show 1 ≤ 1000; decide) rfl z
    have lx : xs.length = ls.length := fa.1
    refine ⟨_, rfl, _, rfl, p, _, dx, _, _, rfl, hp, T.clP, T.nPL, prf_l _ _ _, lt, xs, rfl, .inr hlt, _, _, rfl, rfl, _, _, _, rfl, .inl ⟨a, rfl, _, rfl, ?_⟩⟩
    rw [lx]
    by_cases hn : 0 ≤ a ∧ a ≤ (ls.length : Int) - 1
    · rw [decide_eq_true hn]
      exact iteF (k2 hn)
    · rw [decide_eq_false hn]
      exact iteT ⟨_, rfl, bad (k1 hn)⟩
theorem sc_check_statement : FnScope ["program", "loop", "statement"] ["program", "loop", "statement"] (defScope s_check_statement) := ⟨rfl, rfl, rfl, by decide +kernel, rfl, by decide +kernel, by decide +kernel⟩
theorem ok_ckSt {f : Addr} {fd : FuncData} (F : FnP K "check_statement" s_check_statement f fd) (T : LwTx K mg) (MS : Mx P w K mg base "NoStatement" ["self", "loop", "statement"] ["loop", "statement"]) (dCkL : Dx P w K mg base 4 "check_loop" ["program", "loop"] (spCkL K)) (dIsIntFrom : Dn P w K mg base 2 "is_integer_from" ["value", "low", "high"] spIntFromA) : FnOk P w K mg base (L2.CX P w) 5 f fd ["program", "loop", "statement"] (spCkSt K) := by
  refine F.ok sc_check_statement (fun vs H Q E h => ?_) (fun cdv A outer s H vs Q E hr h => ?_)
  · obtain ⟨v, ls, a, sv, rfl, _⟩ := h
    rfl
  · obtain ⟨v, ls, a, sv, rfl, hP, k1, k2⟩ := h
    refine ⟨_, (pss_cons (ps_expr (pe_dx (K := K) dCkL rfl hr (fun σ => passAt (takes_of rfl rfl rfl rfl) σ) (pa_cons (pv 0) (pa_cons (pv 1) pa_nil))))
      (pss_one (ps_if (pt_not (pt_val (pe_dn dIsIntFrom hr (pa_cons (pv 2) (pa_cons pe_int (pa_cons (pe_op op_sub (pe_callB (call_len_seqK (K := K) rfl) (by rfl) T.len PySem.boot_len (pa_cons (pe_fld (pe_ix (ix_tupK (K := K) rfl) (pe_fld (pv 0) rfl) (pv 1) (fun _ _ => rfl)) rfl) pa_nil)) pe_int) pa_nil)))))) (pss_one (ps_raise rfl (takes_of rfl rfl rfl rfl) (pmk_err MS hr (pa_cons (pv 1) (pa_cons (pv 2) pa_nil))))) pss_nil))), ?_⟩
    refine ⟨_, rfl, _, rfl, v, ls, a, rfl, hP, k1, fun h1 => ?_⟩
    obtain ⟨j, rfl⟩ : ∃ j : Nat, a = (j : Int) := ⟨a.toNat, by omega⟩
    obtain ⟨l, hl⟩ : ∃ l, ls[j]? = some l := ⟨_, List.getElem?_eq_getElem (by omega)⟩
    obtain ⟨p, xs, ys, rfl, ⟨dx, lt, at_, dk, hp, hlt, hat⟩, fa⟩ := hP
    obtain ⟨u, hu, q, t, u2, ss, rfl, ⟨dq, lo, hi, st, hq, _, _, hst⟩, _, _, fs⟩ := fa.at' hl
    have ls' : ss.length = l.sts.length := fs.1
    have bad : ∀ sv : V, RzV K "NoStatement" ["loop", "statement"] [.int j, sv] H E → _ := fun sv z => err_go (K := K) (x := "NoStatement") (fs := ["loop", "statement"]) (vs := [.int j, sv]) (H1 := H) (Q := E) (by show 2 ≤ 1000; decide) rfl z
    refine ⟨_, rfl, _, rfl, p, _, dx, _, _, rfl, hp, T.clP, T.nPL, prf_l _ _ _, ?_⟩
    refine ⟨_, rfl, lt, _, _, _, rfl, rfl, hlt, atI_nat hu, q, _, dq, _, _, rfl, hq, T.clL, T.nSt, lp_tt _ _ _ _ _, st, ss, rfl, .inr hst, _, _, rfl, rfl, ?_⟩
    rw [ls']
    rcases k2 j l rfl hl with ⟨iv, k⟩ | ⟨k, rfl, k3, k4⟩
    · exact ⟨_, _, _, rfl, .inr ⟨iv, _, rfl, iteT ⟨_, rfl, _, rfl, bad _ k⟩⟩⟩
    · refine ⟨_, _, _, rfl, .inl ⟨k, rfl, _, rfl, ?_⟩⟩
      by_cases hn : 0 ≤ k ∧ k ≤ (l.sts.length : Int) - 1
      · rw [decide_eq_true hn]
        exact iteF (k4 hn)
      · rw [decide_eq_false hn]
        exact iteT ⟨_, rfl, _, rfl, bad _ (k3 hn)⟩
theorem sc_turns_of_loop : FnScope ["loop", "n", "statement"] ["loop", "n"] (defScope s_turns_of_loop) := ⟨rfl, rfl, rfl, by decide +kernel, rfl, by decide +kernel, by decide +kernel⟩
theorem ok_TOL {f : Addr} {fd : FuncData} (F : FnP K "turns_of_loop" s_turns_of_loop f fd) (T : LwTx K mg) (dDT : Dn P w K mg base 5 "done_turns" ["loop", "conditions", "n"] (spDT K)) : FnOk P w K mg base CX0 6 f fd ["loop", "n"] (spTOL K) := by
  refine F.ok sc_turns_of_loop (fun vs H Q E h => ?_) (fun cdv A outer s H vs Q E hr h => ?_)
  · obtain ⟨v, l, n, rfl, _⟩ := h
    rfl
  · obtain ⟨v, l, n, rfl, hL, ok, k⟩ := h
    refine ⟨_, PSs.nox (pss_one (ps_ret (pe_lc (own := [("statement", 2)]) (g := gName 2) (tt := tYes) rfl sc_turns_of_loop.nd (pi_tup (pe_fld (pv 0) rfl)) (blkOk_by (N := ["loop", "n", "statement"]) (sc := defScope s_turns_of_loop) (by decide +kernel)) (fun _ _ _ _ _ => (pg_name (i := 2) sc_turns_of_loop.nd rfl (.inl rfl))) (fun _ _ _ _ _ => pts_nil) (fun _ _ _ _ _ => (pe_dn dDT hr (pa_cons (pv 0) (pa_cons (pe_fldK (K := K) rfl (pv 2)) (pa_cons (pv 1) pa_nil)))))))), ?_⟩
    obtain ⟨p, t, u, xs, rfl, ⟨dx, lo, hi, st, hp, hlo, hhi, hst⟩, f1, f2, fs⟩ := id hL
    have lx : xs.length = l.sts.length := fs.1
    have n3 := (lpOk_st ok).1
    refine ⟨_, rfl, p, _, dx, _, _, rfl, hp, T.clL, T.nSt, lp_tt _ _ _ _ _, st, rfl, ⟨_, hst⟩, fun D hD => ?_⟩
    refine lc_tup (K := K) (xs := xs) (fun b Hb => ∃ ys, Hb D = some (.lst ys) ∧ DTs Hb ys (((cols l n).take b).map tnD) ∧ Same H Hb) ⟨[], upd_same, .nil, Same.new _ (Same.refl H) hD⟩ (fun b Hb _ z => by
      obtain ⟨ys, _, _, s⟩ := z
      exact SqT.same hst s) ?_ ?_
    · rintro b v Hb hv ⟨ys, eD, dy, sb⟩
      obtain ⟨sm, es, ob⟩ := (fs.imp fun _ _ z => z.same sb).at hv
      have oks := (lpOk_st ok).2 sm (List.mem_of_getElem? es)
      obtain ⟨ps, rs, cs, rfl, ⟨dxs, qs, rr, gg, hps, hqs, hrs, hcs⟩, fr, fg⟩ := ob
      refine ⟨rfl, yes_of ?_⟩
      refine ⟨_, rfl, _, rfl, ps, _, dxs, _, _, rfl, hps, T.clM, T.nMG, stf_g _ _ _ _ _, _, rfl, _, l, gg, cs, sm.gds, n, rfl, hL.same sb, ok, hcs, fg, oks.2.2.2.2.2.1, oks.2.2.2.2.2.2.2, fun t' H' s' tn => ?_⟩
      have eD2 := s' _ _ eD
      have lys : ys.length ≤ 3 := by
        rw [dy.len, List.length_map, List.length_take, cols_len]
        omega
      have ec : (cols l n)[b]? = some (dtn l n sm.gds) := by
        unfold cols
        rw [List.getElem?_map, es]
        rfl
      refine ⟨_, eD2, sz1m _ (by omega), ys ++ [.ref t'], upd_same, ?_, fun b' o e => ?_⟩
      · rw [List.take_add_one, ec]
        exact DTs.snoc ((dy.to (.of s')).to (.updL eD2)) ((tn_dt tn).to (.updL eD2))
      · rw [upd_ne (ne_of_none e hD)]
        exact s' _ _ (sb _ _ e)
    · rintro H3 ⟨ys, eD, dy, sb⟩
      rw [lx, ← cols_len (l := l) (n := n), List.take_length] at dy
      exact k D H3 sb hD ⟨D, ys, rfl, eD, dy, fun T hT => (cols_good T hT).len⟩
theorem sc_turns_of : FnScope ["program", "n", "loop"] ["program", "n"] (defScope s_turns_of) := ⟨rfl, rfl, rfl, by decide +kernel, rfl, by decide +kernel, by decide +kernel⟩
theorem ok_TO {f : Addr} {fd : FuncData} (F : FnP K "turns_of" s_turns_of f fd) (T : LwTx K mg) (dTOL : Dn P w K mg base 6 "turns_of_loop" ["loop", "n"] (spTOL K)) : FnOk P w K mg base CX0 7 f fd ["program", "n"] (spTO K) := by
  refine F.ok sc_turns_of (fun vs H Q E h => ?_) (fun cdv A outer s H vs Q E hr h => ?_)
  · obtain ⟨v, ls, n, rfl, _⟩ := h
    rfl
  · obtain ⟨v, ls, n, rfl, ⟨p, xs, ys, rfl, ⟨dx, lt, at_, dk, hp, hlt, hat⟩, fa⟩, l6, ok, k⟩ := h
    refine ⟨_, PSs.nox (pss_one (ps_ret (pe_lc (own := [("loop", 2)]) (g := gName 2) (tt := tYes) rfl sc_turns_of.nd (pi_tup (pe_fld (pv 0) rfl)) (blkOk_by (N := ["program", "n", "loop"]) (sc := defScope s_turns_of) (by decide +kernel)) (fun _ _ _ _ _ => (pg_name (i := 2) sc_turns_of.nd rfl (.inl rfl))) (fun _ _ _ _ _ => pts_nil) (fun _ _ _ _ _ => (pe_dn dTOL hr (pa_cons (pv 2) (pa_cons (pv 1) pa_nil))))))), ?_⟩
    have lx : xs.length = ls.length := fa.1
    refine ⟨_, rfl, p, _, dx, _, _, rfl, hp, T.clP, T.nPL, prf_l _ _ _, lt, rfl, ⟨_, hlt⟩, fun D hD => ?_⟩
    refine lc_tup (K := K) (xs := xs) (fun b Hb => ∃ ps, Hb D = some (.lst ps) ∧ Fa (fun v cs => ColV Hb v cs ∧ v ≠ .ref D) ps ((tabsOf ls n).take b) ∧ Same H Hb) ⟨[], upd_same, Fa.nil, Same.new _ (Same.refl H) hD⟩ (fun b Hb _ z => by
      obtain ⟨ys, _, _, s⟩ := z
      exact SqT.same hlt s) ?_ ?_
    · rintro b v Hb hv ⟨ps, eD, dy, sb⟩
      obtain ⟨l, el, ob⟩ := (fa.imp fun _ _ z => z.same sb).at hv
      have okl := ok l (List.mem_of_getElem? el)
      refine ⟨rfl, yes_of ?_⟩
      refine ⟨_, rfl, _, rfl, _, l, n, rfl, ob, okl, fun q H' s' hq cv => ?_⟩
      have eD2 := s' _ _ eD
      have lps : ps.length ≤ 6 := by
        rw [dy.1, List.length_take]
        unfold tabsOf
        rw [List.length_map]
        omega
      have ec : (tabsOf ls n)[b]? = some (cols l n) := by
        unfold tabsOf
        rw [List.getElem?_map, el]
        rfl
      have nq : q ≠ D := fun z => by
        rw [z, eD] at hq
        cases hq
      have mv : ∀ v cs, ColV H' v cs → v ≠ .ref D → ColV (upd H' D (.lst (ps ++ [.ref q]))) v cs := fun v cs z nz => by
        obtain ⟨l0, xs0, rfl, h1, h2, h3⟩ := z
        exact ⟨l0, xs0, rfl, by rw [upd_ne (fun y => nz (congrArg V.ref y))]; exact h1, h2.to (.updL eD2), h3⟩
      refine ⟨_, eD2, sz1m _ (by omega), ps ++ [.ref q], upd_same, ?_, fun b' o e => ?_⟩
      · rw [List.take_add_one, ec]
        exact (dy.imp fun v cs z => ⟨mv v cs (z.1.same s') z.2, z.2⟩).snoc ⟨mv _ _ cv fun z => nq (V.ref.inj z), fun z => nq (V.ref.inj z)⟩
      · rw [upd_ne (ne_of_none e hD)]
        exact s' _ _ (sb _ _ e)
    · rintro H3 ⟨ps, eD, dy, sb⟩
      have lt' : xs.length = (tabsOf ls n).length := by
        unfold tabsOf
        rw [List.length_map]
        exact lx
      rw [lt', List.take_length] at dy
      exact k D H3 sb ⟨ps, eD, dy.imp fun _ _ z => z.1⟩
end
end K35
set_option maxHeartbeats 6400000
namespace Z
open PySem PySem.Spec PyProof.Rows L2
section
variable {P : Program} {w : World} {A : Around} {E : Value → Shared → Prop} {s : Shared}
/-- set(xs), xs a list of ints -/
theorem si_call {l : Addr} {items : Array Value} (ns : List Int) {Q : Value → Shared → Prop} (hh : A.handled = none) (hl : s.heap.IsList l items) (hi : IntsAre items.toList ns) (few : ns.length + 1 < scanBound)
    (k : ∀ (h' : Heap) (tk c : Nat), SetR w h' s.heap.objs.size (fun j => decide (j ∈ ns)) c → c ≤ ns.length → (∀ b o, s.heap.get? b = some o → h'.get? b = some o) → Q (.ref s.heap.objs.size) { s with heap := h', toks := tk }) :
    wpAny (model P w) A (call (.type "set") [.ref l]) Q E s := by
  have hz : items.size = ns.length := by
    have q := IntsAre.length hi
    rw [Array.length_toList] at q
    exact q
  obtain ⟨c, tl, hmro⟩ := F.called_set.mro
  have hmade := F.called_set.made
  have hsub := F.called_set.sub
  refine wpAny_call (codeAny_of_tree ?_)
  show wpAny _ _ (callAny (.type "set") _) _ _ _
  refine wpAny_pure ⟨Code.quiet_builtin _ (by decide +kernel), codeAny_builtin F.entry_type_call ?_⟩
  rw [Around.under_plain (weight_type_call_type "set" [.ref l] []) rfl]
  have h1 := F.called_set.notType
  have h2 := F.called_set.canCreate
  have hct := F.typeCall_set_1 (.ref l)
  repeat (any_goals (first | assumption | wp_step))
  obtain ⟨H0, eH0⟩ : ∃ H0 : Heap, H0 = s.heap.push { cls := .type "set", dict := none, data := .set #[] 0 (.fresh 0 0 (!w.params.followText "set-order")) } := ⟨_, rfl⟩
  refine codeAny_mono (code_set_led1 (.ref l) (E := E) (Q₁ := fun obj s₁ => obj = .ref s.heap.objs.size ∧ s₁ = { s with heap := H0 }) ⟨rfl, by rw [eH0]⟩) fun r s₁ hr => ?_
  have g0 : H0.get? s.heap.objs.size = some { cls := .type "set", dict := none, data := .set #[] 0 (.fresh 0 0 (!w.params.followText "set-order")) } := eH0 ▸ Heap.get?_push_size _ rfl
  have z0 : H0.objs.size = s.heap.objs.size + 1 := by rw [eH0, Heap.size_push]
  have k0 : ∀ b o, s.heap.get? b = some o → H0.get? b = some o := fun b o e => eH0 ▸ Heap.get?_push_of_some _ e
  cases r with
  | error e => exact hr
  | ok fl =>
    cases fl with
    | ret obj =>
      obtain ⟨rfl, rfl⟩ := hr
      have hT : Shared.TypeIs { s with heap := H0 } (.ref s.heap.objs.size) "set" := ⟨_, g0, rfl⟩
      have hli := F.called_set.init.lookup
      have hbi := F.called_set.init.bind (.ref s.heap.objs.size)
      repeat (any_goals (first | assumption | wp_step))
      refine codeAny_mono (codeAny_call_builtin (R := wants (fun r s₂ => r = .none ∧ ∃ h' tk c, s₂ = { s with heap := h', toks := tk } ∧ (SetR w h' s.heap.objs.size (fun j => decide (j ∈ ns)) c ∧ c ≤ ns.length) ∧ ∀ b o, s.heap.get? b = some o → h'.get? b = some o) E)
        F.called_set.init.plain F.entry_set_init (check_set_init_1 hT ?_)) fun r₂ s₂ hr₂ => ?_
      · obtain ⟨⟨ocls, odict, odata, oslots⟩, hol, hcl, nl, hdl⟩ := hl
        simp only at hcl hdl
        subst hcl hdl
        have hol' : H0.get? l = some { cls := .type "list", dict := odict, data := .seq items nl, slots := oslots } := k0 _ _ hol
        have hsls := F.sub_list_set
        have hslf := F.sub_list_frozenset
        have hne : (Value.type "list" == Value.type "dict") = false := by decide
        have hl1 : H0.IsList l items := ⟨_, hol', rfl, nl, rfl⟩
        unfold Builtin.«set.__init__» noKeywords Builtin.Frozenset.updateFrom
        generalize hPI : pyIter = PI
        wp_walk
        subst hPI
        refine wpAny_pyIter_list hl1 (wpAny_bind (wpAny_runValue ?_))
        have lt : l < s.heap.objs.size := Heap.lt_size hol
        have hne : l ≠ H0.objs.size := by rw [z0]; exact Nat.ne_of_lt (Nat.lt_succ_of_lt lt)
        have hno : s.heap.objs.size ∉ [H0.objs.size, l] := by
          simp only [List.mem_cons, List.not_mem_nil, or_false, not_or, z0]
          exact ⟨Nat.ne_of_lt (Nat.lt_succ_self _), Nat.ne_of_gt lt⟩
        have item : ∀ (i : Nat) (v : Value), items[i]? = some v → ∃ k t, ns[i]? = some k ∧ v = .int k t := fun i v hv => by
          have hi2 : i < ns.length := by rw [← hz]; exact (Array.getElem?_eq_some_iff.mp hv).1
          obtain ⟨t, e⟩ := PyProof.Rows.IntsAre.int_at hi i v (by rw [Array.getElem?_toList]; exact hv)
          exact ⟨ns[i], t, List.getElem?_eq_getElem hi2, by rw [e, List.getD_eq_getElem?_getD, List.getElem?_eq_getElem hi2] <;> rfl⟩
        refine set_update_ints ((Walks.list (by simp [hh]) _ l hne items).toS) s.heap.objs.size hno ns hz few item (items.size - 0) 0 _ (by omega) (Nat.zero_le _) ⟨⟨_, Heap.get?_push_size _ rfl, rfl, rfl⟩, (hl1.push _)⟩ ⟨0, Nat.le_refl 0, setR_new_at (Heap.get?_push_of_some _ g0)⟩ ?_
        intro s' c' hm hc' hs'
        obtain ⟨h', g', d', tk', os'⟩ := s'
        have eg : g' = s.gens := hm.gens
        have ed : d' = s.drawn := hm.drawn
        have eo : os' = s.os := hm.os
        subst eg ed eo
        refine wpAny_pure (wpAny_pure (M := model P w) ⟨rfl, h', tk', c', rfl, ⟨hs', hz ▸ hc'⟩, fun b o e => ?_⟩)
        have lb : b < s.heap.objs.size := Heap.lt_size e
        refine hm.heap b o ?_ (Heap.get?_push_of_some _ (k0 _ _ e))
        simp only [List.mem_cons, List.not_mem_nil, or_false, not_or]
        exact ⟨Nat.ne_of_lt lb, by rw [z0]; exact Nat.ne_of_lt (Nat.lt_succ_of_lt lb)⟩
      · cases r₂ with
        | error e => exact hr₂
        | ok fl₂ =>
          cases fl₂ with
          | ret r =>
            obtain ⟨rfl, h', tk, c', rfl, ⟨hs', hc'⟩, hk'⟩ := hr₂
            repeat (any_goals (first | assumption | wp_step))
            exact k _ _ _ hs' hc' hk'
          | _ => exact hr₂.elim
    | _ => exact hr.elim
/-- sorted(found), any number of members -/
theorem si_sorted {a : Addr} {S : Int → Bool} {n : Nat} {Q : Value → Shared → Prop} (R : SetR w s.heap a S n) (hh : A.handled = none)
    (k : ∀ s' p (out : List Value) (c : Nat) (ys : List Int), (∀ b o, s.heap.get? b = some o → s'.heap.get? b = some o) → s'.gens = s.gens → s'.os = s.os → s.heap.objs.size ≤ p → s'.heap.get? p = some (seqObj "list" out.toArray c) →
      IntsAre out ys → ys.Nodup → (∀ x, x ∈ ys ↔ S x = true) → ys.Pairwise (· ≤ ·) → ys.length = n → Q (.ref p) s') : wpAny (model P w) A (call (.builtin "sorted") [.ref a]) Q E s := by
  obtain ⟨o, es, ep, t, ho, hx, hd, g, nd, hm, hb, hf, hn, hr, hl⟩ := R
  refine Calls.call_function_entry kind_sorted plain_sorted entry_sorted (args_sorted1 _) ?_
  unfold Builtin.«sorted»
  refine wpAny_bind (m := checkCount "sorted" 1 1 _) (wpAny_pure ?_)
  refine wpAny_bind (collect_set (A := A.in1) hh ⟨o, ho, hx.1, hd⟩ hf hb hr hl fun s1 vs k1 hz g1 o1 pm => ?_)
  have vl : vs.length = es.size := by rw [pm.length_eq, List.length_map, Array.length_toList]
  have hI : IntsAre vs (vs.map SrtO.iv) := SrtO.ints_iv fun v hv => by
    obtain ⟨e, he, q⟩ := List.mem_map.mp (pm.mem_iff.mp hv)
    obtain ⟨k, u, h1, _⟩ := g e he
    exact ⟨k, u, by rw [← q]; exact h1⟩
  have pk : (vs.map SrtO.iv).Perm (es.toList.map keyOf) := by
    have q := pm.map SrtO.iv
    rw [List.map_map] at q
    have e : es.toList.map (SrtO.iv ∘ fun x => x.2) = es.toList.map keyOf := List.map_congr_left fun e he => by
      obtain ⟨k, u, h1, _⟩ := g e he
      obtain ⟨e1, e2⟩ := e
      have h1 : e2 = Value.int k u := h1
      subst h1
      rfl
    rw [← e]
    exact q
  have few : vs.length ≤ sizeLine := by
    rw [vl]
    exact fits_of_scanBound hb
  refine wpAny_bind (wpAny_newList ?_ few)
  have hoL : (s1.heap.push (seqObj "list" vs.toArray 0)).get? s1.heap.objs.size = some (seqObj "list" vs.toArray 0) := Heap.get?_push_size _ rfl
  refine wpAny_bind (wpAny_holding (wpAny_call_entry slot_list_sort ⟨_, hoL, rfl⟩ entry_list_sort
    (SrtO.list_sort_ord SrtO.swo_int hoL few (fun h2 => SrtO.ints_sortable hI h2) fun out h1 h2 => ⟨_, rfl, ?_⟩) (args_list_sort _)))
  obtain ⟨a1, a2, a3⟩ := SrtO.ints_out hI h1 h2
  obtain ⟨c, hc⟩ := sortedHeap_at (vs := vs) (out := out.toArray) hoL
  have pn : (out.map SrtO.iv).Perm (es.toList.map keyOf) := a2.trans pk
  refine wpAny_pure ⟨_, rfl, k _ s1.heap.objs.size out c _ (fun b u e => ?_) g1 o1 hz hc a1 (pn.nodup_iff.mpr nd) (fun x => by rw [pn.mem_iff, ← hm x]) a3 ?_⟩
  · have q := k1 b u e
    have hlt := Heap.lt_size q
    show (sortedHeap (s1.heap.push (seqObj "list" vs.toArray 0)) s1.heap.objs.size vs _).get? b = some u
    rw [sortedHeap_old (Nat.ne_of_lt hlt) (by rw [Heap.size_push]; exact Nat.lt_succ_of_lt hlt)]
    exact Heap.get?_push_of_some _ q
  · rw [pn.length_eq, List.length_map, Array.length_toList]
    exact hn
end
section
variable {X : Cx}
/-- set(xs), xs a list of ints -/
def rSetI (K : PySem.W.Frag) (w : World) : List V → Hp → VK → Prop := fun vs H Q => ∃ (l : Addr) (ns : List Int), vs = [V.ref l] ∧ SqL K H l (ns.map V.int) ∧ ns.length + 1 < scanBound ∧ ∀ a c, H a = none → c ≤ ns.length → Q (.ref a) (upd H a (SetO w a (fun j => decide (j ∈ ns)) c))
theorem cr_setI (hc : X.calm = true) : CallR X (.type "set") (rSetI X.K X.w) := by
  intro pins s σ H vs us Q I r h
  obtain ⟨l, ns, rfl, hl, few, q⟩ := h
  rw [Vals.ref1 r]
  obtain ⟨its, rv, pl, hz⟩ := I.list hl
  have hn : H s.heap.objs.size = none := I.hok.fresh (Nat.le_refl _)
  exact si_call (P := X.prog) (w := X.w) ns (I.ok.hd hc) pl.isList (by simpa using rv.ints) few fun h' tk c R hcc k =>
    ⟨.ref s.heap.objs.size, upd H s.heap.objs.size (SetO X.w s.heap.objs.size (fun j => decide (j ∈ ns)) c), I.laid (t' := tk) k (Nat.le_refl _) (setO_new R), rfl, q _ c hn hcc⟩
/-- sorted(found) of a set of ints -/
def rSortedSA (w : World) : List V → Hp → VK → Prop := fun vs H Q => ∃ (a : Addr) (S : Int → Bool) (n : Nat), vs = [V.ref a] ∧ H a = some (SetO w a S n) ∧ n ≤ 100000 ∧
  ∀ (ys : List Int) (p : Addr), ys.Nodup → (∀ x, x ∈ ys ↔ S x = true) → ys.Pairwise (· ≤ ·) → ys.length = n → H p = none → Q (.ref p) (upd H p (.lst (ys.map V.int)))
theorem cr_sortedSA (hc : X.calm = true) : CallR X (.builtin "sorted") (rSortedSA X.w) := by
  intro pins s σ H vs us Q I r h
  obtain ⟨a, S, n, rfl, ha, few, q⟩ := h
  have R := setO_get I ha
  rw [Vals.ref1 r]
  refine si_sorted (P := X.prog) R (I.ok.hd hc) fun s' p out c ys k g o hp hg hi nd mem srt len => ?_
  have hlen : (ys.map V.int).length ≤ sizeLine := by
    rw [List.length_map, sizeLine_eq, len]
    omega
  have hn : H p = none := I.hok.fresh hp
  have J : Inv X pins σ (upd H p (.lst (ys.map V.int))) { s with heap := s'.heap, gens := s'.gens, drawn := s'.drawn, toks := s'.toks } :=
    I.call (ch := []) (Un.laid k hp hn) (I.hok.laid k hp ⟨hlen, out, c, vals_of_ints hi, hg⟩) (by rw [g]; exact I.bare) (fun _ z => nomatch z)
  have e : s' = { s with heap := s'.heap, gens := s'.gens, drawn := s'.drawn, toks := s'.toks } := by
    cases s'
    cases s
    cases o
    rfl
  rw [e]
  exact ⟨.ref p, _, J, rfl, q ys p nd mem srt len hn⟩
end
end Z
set_option maxHeartbeats 4000000
namespace K35
open PySem PySem.Spec PyProof.Rows L2 Z
theorem atI_last {xs : List V} {x : V} : atI (xs ++ [x]) (-1) = some x := by
  have e : ixN (xs ++ [x]).length (-1) = some xs.length := by
    unfold ixN
    rw [List.length_append, List.length_singleton]
    split
    · omega
    · split
      · congr 1
        omega
      · omega
  unfold atI
  rw [e]
  simp
theorem filt_snoc {α : Type} {p : α → Bool} {l : List α} {i : Nat} {a : α} (h : l[i]? = some a) : (l.take (i + 1)).filter p = (l.take i).filter p ++ if p a = true then [a] else [] := by
  rw [List.take_add_one, h, List.filter_append]
  congr 1
  show [a].filter p = _
  by_cases z : p a = true
  · rw [if_pos z, List.filter_cons_of_pos z]
    rfl
  · rw [if_neg z, List.filter_cons_of_neg z]
    rfl
theorem last_of {p : Int → Bool} : ∀ {ys : List Int}, ys.Pairwise (· ≤ ·) → (∃ x ∈ ys, p x = true) → ∃ zs a, ys.filter p = zs ++ [a] ∧ a ∈ ys ∧ p a = true ∧ ∀ m ∈ ys, p m = true → m ≤ a
  | [], _, h => by
    obtain ⟨x, hx, _⟩ := h
    cases hx
  | y :: ys, hp, h => by
    obtain ⟨h1, h2⟩ := List.pairwise_cons.mp hp
    by_cases q : ∃ x ∈ ys, p x = true
    · obtain ⟨zs, a, e, ha, pa, top⟩ := last_of h2 q
      have ya := h1 a ha
      refine ⟨if p y = true then y :: zs else zs, a, ?_, List.mem_cons_of_mem _ ha, pa, fun m hm pm => ?_⟩
      · by_cases z : p y = true
        · rw [if_pos z, List.filter_cons_of_pos z, e]
          rfl
        · rw [if_neg z, List.filter_cons_of_neg z, e]
      · rcases List.mem_cons.mp hm with rfl | hm
        · exact ya
        · exact top m hm pm
    · have none : ys.filter p = [] := List.filter_eq_nil_iff.mpr fun x hx px => q ⟨x, hx, px⟩
      obtain ⟨x, hx, px⟩ := h
      rcases List.mem_cons.mp hx with rfl | hx
      · refine ⟨[], x, by rw [List.filter_cons_of_pos px, none]; rfl, List.mem_cons_self, px, fun m hm pm => ?_⟩
        rcases List.mem_cons.mp hm with rfl | hm
        · exact Int.le_refl _
        · exact absurd ⟨m, hm, pm⟩ q
      · exact absurd ⟨x, hx, px⟩ q
theorem sum_cast {α : Type} (f : α → Nat) (l : List α) : (l.map fun x => (f x : Int)).sum = ((l.map f).sum : Int) := by
  induction l with
  | nil => rfl
  | cons x l ih => rw [List.map_cons, List.map_cons, List.sum_cons, List.sum_cons, ih, Int.natCast_add]
theorem perC_bd {cs : List Tn} (h : CGood cs) (p : Tn → Bool) : ((cs.filter p).map fun T => T.rs.length).sum ≤ 12 * cs.length := by
  induction cs with
  | nil => exact Nat.le_refl _
  | cons T cs ih =>
    have ih := ih fun T hT => h T (List.mem_cons_of_mem _ hT)
    have hl := (h T List.mem_cons_self).len
    by_cases q : p T = true
    · rw [List.filter_cons_of_pos q, List.map_cons, List.sum_cons, List.length_cons]
      omega
    · rw [List.filter_cons_of_neg q, List.length_cons]
      omega
def spTW : Sp := fun vs H Q _ => ∃ (l : Addr) (xs : List V) (cs : List Tn) (num : Int), vs = [.ref l, .int num] ∧ Cols H l xs cs ∧ CGood cs ∧ cs.length ≤ 1000 ∧ 0 ≤ num ∧ num < (allOf cs : Int) ∧ ∀ (t : Nat) H', Same H H' → (wb cs t : Int) ≤ num → num < (wb cs (t + 1) : Int) → Q (.int (t : Int)) H'
section
variable {P : Program} {w : World} {K : PySem.W.Frag} {mg : Str → Option Value} {base : Heap}
theorem sc_turn_with : FnScope ["columns", "number", "marks", "turns", "starts", "mark", "turn", "per_cycle", "done"] ["columns", "number"] (defScope s_turn_with) := ⟨rfl, rfl, rfl, by decide +kernel, rfl, by decide +kernel, by decide +kernel⟩
theorem ok_TW {f : Addr} {fd : FuncData} (F : FnP K "turn_with" s_turn_with f fd) (T : LwTx K mg) (U : Nb mg) (hCYCLE : ∃ t, mg "CYCLE" = some (.int 12 t)) (dWBelow : Dn P w K mg base 2 "works_before" ["columns", "turn"] spWBelow) (dDoneIn : Dn P w K mg base 1 "is_done_in" ["turns", "turn"] spDoneIn) :
    FnOk P w K mg base CX0 3 f fd ["columns", "number"] spTW := by
  refine F.ok sc_turn_with (fun vs H Q E h => ?_) (fun cdv A outer s H vs Q E hr h => ?_)
  · obtain ⟨l, xs, cs, num, rfl, _⟩ := h
    rfl
  · obtain ⟨l, xs, cs, num, rfl, hC, good, few, n0, n1, k⟩ := h
    obtain ⟨tCYCLE, hCYCLE⟩ := hCYCLE
    obtain ⟨num, rfl⟩ : ∃ m : Nat, num = (m : Int) := ⟨num.toNat, by omega⟩
    have hl := hC.1
    have dx := hC.2.1
    have lx : xs.length = cs.length := by rw [dx.len, List.length_map]
    refine ⟨_, PSs.nox (pss_cons (ps_set (i := 2) sc_turn_with.nd rfl (Or.inl rfl) (pe_callB (cr_sortedSA rfl) (by rfl) U.sorted (by decide +kernel) (pa_cons (pe_callTy (cr_setI rfl) (by rfl) U.set (by decide +kernel) (pa_cons (pe_op op_cat (pe_op op_cat (pe_lst (pa_cons pe_int pa_nil)) (pe_lc (own := [("turns", 3)]) (g := gName 3) (tt := tYes) rfl sc_turn_with.nd (pi_list (pv 0)) (blkOk_by (N := ["columns", "number", "marks", "turns", "starts", "mark", "turn", "per_cycle", "done"]) (sc := defScope s_turn_with) (by decide +kernel)) (fun _ _ _ _ _ => (pg_name (i := 3) sc_turn_with.nd rfl (.inl rfl))) (fun _ _ _ _ _ => pts_nil) (fun _ _ _ _ _ => (pe_ix (ix_tupK (K := K) rfl) (pv 3) pe_int (fun _ _ => rfl))))) (pe_lc (own := [("turns", 3)]) (g := gName 3) (tt := tYes) rfl sc_turn_with.nd (pi_list (pv 0)) (blkOk_by (N := ["columns", "number", "marks", "turns", "starts", "mark", "turn", "per_cycle", "done"]) (sc := defScope s_turn_with) (by decide +kernel)) (fun _ _ _ _ _ => (pg_name (i := 3) sc_turn_with.nd rfl (.inl rfl))) (fun _ _ _ _ _ => pts_nil) (fun _ _ _ _ _ => (pe_op op_add (pe_ix (ix_tupK (K := K) rfl) (pv 3) pe_int (fun _ _ => rfl)) pe_int)))) pa_nil)) pa_nil)))
      (pss_cons (ps_setLc (i := 4) (own := [("mark", 5)]) (g := gName 5) rfl sc_turn_with.nd rfl rfl (sw_true rfl rfl rfl (by decide +kernel)) (pi_list (pv 2)) (blkOk_by (N := ["columns", "number", "marks", "turns", "starts", "mark", "turn", "per_cycle", "done"]) (sc := defScope s_turn_with) (by decide +kernel)) (fun _ _ _ _ _ => (pg_name (i := 5) sc_turn_with.nd rfl (.inl rfl))) (fun _ _ _ _ _ => (pts_one (pt_cmpR op_le (pe_dn dWBelow hr (pa_cons (pv 0) (pa_cons (pv 5) pa_nil))) (pv 1) (nomark _)))) (fun _ _ _ _ _ => (pv 5)))
      (pss_cons (ps_set (i := 6) sc_turn_with.nd rfl (Or.inr rfl) (pe_ix ix_list (pv 4) (pe_un un_neg pe_int) (fun _ _ => rfl)))
      (pss_cons (ps_aug (i := 1) sc_turn_with.nd rfl (Or.inr rfl) (pe_dn dWBelow hr (pa_cons (pv 0) (pa_cons (pv 6) pa_nil))) ip_sub)
      (pss_cons (ps_set (i := 7) sc_turn_with.nd rfl (Or.inl rfl) (pe_callB (cr_sum rfl) (by rfl) T.sum (by decide +kernel) (pa_cons (pe_lc (own := [("turns", 3)]) (g := gName 3) rfl sc_turn_with.nd (pi_list (pv 0)) (blkOk_by (N := ["columns", "number", "marks", "turns", "starts", "mark", "turn", "per_cycle", "done"]) (sc := defScope s_turn_with) (by decide +kernel)) (fun _ _ _ _ _ => (pg_name (i := 3) sc_turn_with.nd rfl (.inl rfl))) (fun _ _ _ _ _ => (pts_one (pt_chain op_le op_le (pe_ix (ix_tupK (K := K) rfl) (pv 3) pe_int (fun _ _ => rfl)) (pv 6) (pe_ix (ix_tupK (K := K) rfl) (pv 3) pe_int (fun _ _ => rfl))))) (fun _ _ _ _ _ => (pe_callB (call_len_seqK (K := K) rfl) (by rfl) T.len PySem.boot_len (pa_cons (pe_ix (ix_tupK (K := K) rfl) (pv 3) pe_int (fun _ _ => rfl)) pa_nil)))) pa_nil)))
      (pss_cons (ps_aug (i := 6) sc_turn_with.nd rfl (Or.inr rfl) (pe_op op_mul (pe_op op_fdivN (pv 1) (pv 7)) (pe_glob (v := .int 12) rfl hCYCLE ⟨tCYCLE, rfl⟩)) ip_add)
      (pss_cons (ps_set (i := 1) sc_turn_with.nd rfl (Or.inr rfl) (pe_op op_modN (pv 1) (pv 7)))
      (pss_cons (ps_setLc (i := 8) (own := [("turns", 3)]) (g := gName 3) rfl sc_turn_with.nd rfl rfl (sw_true rfl rfl rfl (by decide +kernel)) (pi_list (pv 0)) (blkOk_by (N := ["columns", "number", "marks", "turns", "starts", "mark", "turn", "per_cycle", "done"]) (sc := defScope s_turn_with) (by decide +kernel)) (fun _ _ _ _ _ => (pg_name (i := 3) sc_turn_with.nd rfl (.inl rfl))) (fun _ _ _ _ _ => (pts_one (pt_val (pe_dn dDoneIn hr (pa_cons (pv 3) (pa_cons (pv 6) pa_nil)))))) (fun _ _ _ _ _ => (pv 3)))
      (pss_cons (ps_while PassesOwn.never (pt_cmpR op_ge (pv 1) (pe_callB (call_len_seqK (K := K) rfl) (by rfl) T.len PySem.boot_len (pa_cons (pv 8) pa_nil)) (nomark _)) (pss_cons (ps_aug (i := 1) sc_turn_with.nd rfl (Or.inr rfl) (pe_callB (call_len_seqK (K := K) rfl) (by rfl) T.len PySem.boot_len (pa_cons (pv 8) pa_nil)) ip_sub)
      (pss_cons (ps_aug (i := 6) sc_turn_with.nd rfl (Or.inr rfl) pe_int ip_add)
      (pss_one (ps_setLc (i := 8) (own := [("turns", 3)]) (g := gName 3) rfl sc_turn_with.nd rfl rfl (sw_true rfl rfl rfl (by decide +kernel)) (pi_list (pv 0)) (blkOk_by (N := ["columns", "number", "marks", "turns", "starts", "mark", "turn", "per_cycle", "done"]) (sc := defScope s_turn_with) (by decide +kernel)) (fun _ _ _ _ _ => (pg_name (i := 3) sc_turn_with.nd rfl (.inl rfl))) (fun _ _ _ _ _ => (pts_one (pt_val (pe_dn dDoneIn hr (pa_cons (pv 3) (pa_cons (pv 6) pa_nil)))))) (fun _ _ _ _ _ => (pv 3)))))))
      (pss_one (ps_ret (pv 6)))))))))))), ?_⟩
    refine ⟨sz1, fun A0 hA0 => ?_⟩
    have s0 := Same.new (.lst [.int 0]) (Same.refl H) hA0
    have hA : (upd H A0 (.lst [.int 0])) A0 = some (.lst [.int 0]) := upd_same
    obtain ⟨H0, eH0⟩ : ∃ X, X = upd H A0 (.lst [.int 0]) := ⟨_, rfl⟩
    rw [← eH0] at s0 hA
    rw [← eH0]
    refine ⟨_, rfl, l, rfl, ⟨_, SqL.of (s0 _ _ hl)⟩, fun D1 hD1 => ?_⟩
    refine lc_list (K := K) (xs := xs) (fun b Hb => Hb D1 = some (.lst (((cs.take b).map fun T : Tn => T.lo).map V.int)) ∧ Same H0 Hb) ⟨upd_same, Same.new _ (Same.refl H0) hD1⟩ (fun b Hb _ z => SqL.of (z.2 _ _ (s0 _ _ hl))) (by
      rintro b v Hb hv ⟨eD, sb⟩
      obtain ⟨T1, hT1, dT⟩ := (dx.to (.of (s0.trans sb))).map' hv
      obtain ⟨t, rfl, aU⟩ := dt_tn dT
      obtain ⟨r, ht, hr2⟩ := id aU
      refine ⟨rfl, yes_of ⟨_, rfl, t, _, _, _, rfl, rfl, SqT.of ht, at0, _, eD, sz1m _ (by rw [List.length_map, List.length_map, List.length_take]; omega), ?_, fun b' o e => ?_⟩⟩
      · rw [upd_same, List.take_add_one, hT1, List.map_append, List.map_append]
        rfl
      · rw [upd_ne (ne_of_none e hD1)]
        exact sb _ _ e) ?_
    rintro H1 ⟨eD1, s1⟩
    rw [lx, List.take_length] at eD1
    refine ⟨A0, D1, _, _, rfl, rfl, s1 _ _ hA, eD1, Nat.le_of_lt (sz1m _ (by rw [List.length_map, List.length_map]; show 1 + _ < _; omega)), fun C1 hC1 => ?_⟩
    have s2 := s0.trans (s1.trans (Same.new (.lst ([.int 0] ++ (cs.map fun T : Tn => T.lo).map V.int)) (Same.refl H1) hC1))
    have hC1' : (upd H1 C1 (.lst ([.int 0] ++ (cs.map fun T : Tn => T.lo).map V.int))) C1 = some (.lst ([.int 0] ++ (cs.map fun T : Tn => T.lo).map V.int)) := upd_same
    obtain ⟨H2, eH2⟩ : ∃ X, X = upd H1 C1 (.lst ([.int 0] ++ (cs.map fun T : Tn => T.lo).map V.int)) := ⟨_, rfl⟩
    rw [← eH2] at s2 hC1'
    rw [← eH2]
    refine ⟨_, rfl, l, rfl, ⟨_, SqL.of (s2 _ _ hl)⟩, fun D2 hD2 => ?_⟩
    refine lc_list (K := K) (xs := xs) (fun b Hb => Hb D2 = some (.lst (((cs.take b).map fun T : Tn => T.hi + 1).map V.int)) ∧ Same H2 Hb) ⟨upd_same, Same.new _ (Same.refl H2) hD2⟩ (fun b Hb _ z => SqL.of (z.2 _ _ (s2 _ _ hl))) (by
      rintro b v Hb hv ⟨eD, sb⟩
      obtain ⟨T1, hT1, dT⟩ := (dx.to (.of (s2.trans sb))).map' hv
      obtain ⟨t, rfl, aU⟩ := dt_tn dT
      obtain ⟨r, ht, hr2⟩ := id aU
      refine ⟨rfl, yes_of ⟨_, rfl, t, _, _, _, rfl, rfl, SqT.of ht, at1, _, _, rfl, rfl, _, eD, sz1m _ (by rw [List.length_map, List.length_map, List.length_take]; omega), ?_, fun b' o e => ?_⟩⟩
      · rw [upd_same, List.take_add_one, hT1, List.map_append, List.map_append]
        rfl
      · rw [upd_ne (ne_of_none e hD2)]
        exact sb _ _ e) ?_
    rintro H3 ⟨eD2, s3⟩
    rw [lx, List.take_length] at eD2
    have em : ([.int 0] ++ (cs.map fun T : Tn => T.lo).map V.int) ++ (cs.map fun T : Tn => T.hi + 1).map V.int = (marks cs).map V.int := by
      unfold marks
      rw [List.map_append, List.map_append]
      rfl
    have lm : (marks cs).length ≤ 2001 := by
      unfold marks
      rw [List.length_append, List.length_append, List.length_map, List.length_map]
      show 1 + _ + _ ≤ 2001
      omega
    refine ⟨C1, D2, _, _, rfl, rfl, s3 _ _ hC1', eD2, Nat.le_of_lt (sz1m _ (by rw [← List.length_append, em, List.length_map]; omega)), fun C2 hC2 => ?_⟩
    rw [em]
    have s4 := s2.trans (s3.trans (Same.new (.lst ((marks cs).map V.int)) (Same.refl H3) hC2))
    refine ⟨C2, marks cs, rfl, SqL.of upd_same, (Nat.lt_of_le_of_lt (Nat.add_le_add_right lm 1) (by decide)), fun B c hB hc => ?_⟩
    refine ⟨B, _, c, rfl, upd_same, by omega, fun ys M nd mem srt len hM => ?_⟩
    have s5 := (s4.trans (Same.new (SetO w B (fun j => decide (j ∈ marks cs)) c) (Same.refl _) hB)).trans (Same.new (.lst (ys.map V.int)) (Same.refl _) hM)
    have hM' : (upd (upd (upd H3 C2 (.lst ((marks cs).map V.int))) B (SetO w B (fun j => decide (j ∈ marks cs)) c)) M (.lst (ys.map V.int))) M = some (.lst (ys.map V.int)) := upd_same
    refine normG (σ' := [some (.ref l), some (.int num), some (.ref M), none, none, none, none, none, none]) rfl ?_
    try dsimp only
    obtain ⟨H5, eH5⟩ : ∃ X, X = upd (upd (upd H3 C2 (.lst ((marks cs).map V.int))) B (SetO w B (fun j => decide (j ∈ marks cs)) c)) M (.lst (ys.map V.int)) := ⟨_, rfl⟩
    rw [← eH5] at s5 hM'
    refine ⟨_, rfl, M, rfl, ⟨_, SqL.of upd_same⟩, fun D hD => ?_⟩
    have hD : H5 D = none := by rw [eH5]; exact hD
    refine lc_list (K := K) (xs := ys.map V.int) (fun b Hb => Hb D = some (.lst (((ys.take b).filter fun m => decide ((wb cs m.toNat : Int) ≤ num)).map V.int)) ∧ Same H5 Hb) ⟨upd_same, by rw [eH5] at hD ⊢; exact Same.new _ (Same.refl _) hD⟩ (fun b Hb _ z => SqL.of (z.2 _ _ hM')) (by
      rintro b v Hb hv ⟨eD, sb⟩
      rw [List.getElem?_map] at hv
      obtain ⟨y, hy, rfl⟩ := Option.map_eq_some_iff.mp hv
      have step := filt_snoc (p := fun m : Int => decide ((wb cs m.toNat : Int) ≤ num)) hy
      have lim : ((ys.take b).filter fun m => decide ((wb cs m.toNat : Int) ≤ num)).length ≤ 2001 := Nat.le_trans (List.length_filter_le _ _) (by rw [List.length_take]; omega)
      refine ⟨rfl, _, rfl, _, rfl, l, xs, cs, y, rfl, hC.same (s5.trans sb), few, fun H' s' => ?_⟩
      rw [wBelow_is good]
      have eD2 := s' _ _ eD
      refine ⟨_, rfl, _, _, rfl, rfl, _, rfl, ite2 (fun z => ?_) (fun z => ?_)⟩
      · rw [if_pos z] at step
        refine ⟨_, rfl, _, eD2, sz1m _ (by rw [List.length_map]; omega), ?_, fun b' o e => ?_⟩
        · rw [upd_same, step, List.map_append]
          rfl
        · rw [upd_ne (ne_of_none e hD)]
          exact s' _ _ (sb _ _ e)
      · rw [if_neg z, List.append_nil] at step
        rw [step]
        exact ⟨s' _ _ eD, sb.trans s'⟩) ?_
    rintro H6 ⟨eD, s6⟩
    rw [List.length_map, List.take_length] at eD
    have s06 := s5.trans s6
    have mem' : ∀ x, x ∈ ys ↔ x ∈ marks cs := fun x => by
      rw [mem x]
      exact decide_eq_true_iff
    obtain ⟨zs, a, ea, ha, pa, top⟩ := last_of (p := fun m : Int => decide ((wb cs m.toNat : Int) ≤ num)) srt ⟨0, (mem' 0).mpr (by unfold marks; simp), by
      show decide ((wb cs 0 : Int) ≤ num) = true
      rw [wb_zero]
      exact decide_eq_true n0⟩
    rw [ea, List.map_append] at eD
    have pa := of_decide_eq_true pa
    have a0 : 0 ≤ a := top 0 ((mem' 0).mpr (by unfold marks; simp)) (by
      show decide ((wb cs 0 : Int) ≤ num) = true
      rw [wb_zero]
      exact decide_eq_true n0)
    obtain ⟨a, rfl⟩ : ∃ x : Nat, a = (x : Int) := ⟨a.toNat, by omega⟩
    rw [Int.toNat_natCast] at pa
    obtain ⟨e, he, hew⟩ := wb_end (cols := cs) fun T hT => (good T hT).lo
    obtain ⟨b, ab, nb, still⟩ := mark_pick (cols := cs) (ms := ys) (num := num) (a := (a : Int)) (fun m hm => (mem' m).mpr hm) a0 (by rw [Int.toNat_natCast]; omega) (fun m hm hw => top m hm (decide_eq_true (by omega))) ⟨e, (mem' e).mpr he, by rw [hew]; omega⟩
    rw [Int.toNat_natCast] at still
    obtain ⟨pos, fit, rest, low⟩ := jump (cols := cs) (a := a) (b := b.toNat) (num := num) good.ok still (by omega) (by omega) nb
    refine normG (σ' := [some (.ref l), some (.int num), some (.ref M), none, some (.ref D), none, none, none, none]) rfl ?_
    refine ⟨_, rfl, _, rfl, D, _, _, _, rfl, rfl, SqL.of eD, atI_last, ?_⟩
    refine normG (σ' := [some (.ref l), some (.int num), some (.ref M), none, some (.ref D), none, some (.int a), none, none]) rfl ?_
    refine ⟨_, rfl, _, rfl, _, rfl, l, xs, cs, (a : Int), rfl, hC.same s06, few, fun H7 s7 => ?_⟩
    rw [wBelow_is good, Int.toNat_natCast]
    refine ⟨_, _, rfl, rfl, ?_⟩
    refine norm (N := fun σ _ => _) (σ' := [some (.ref l), some (.int (num - (wb cs a : Int))), some (.ref M), none, some (.ref D), none, some (.int (a : Int)), none, none]) rfl ?_
    try dsimp only
    have s07 := s06.trans s7
    refine ⟨_, rfl, l, rfl, ⟨_, SqL.of (s07 _ _ hl)⟩, fun D3 hD3 => ?_⟩
    refine lc_list (K := K) (xs := xs) (fun b Hb => Hb D3 = some (.lst ((((cs.take b).filter fun T : Tn => decide (T.lo ≤ (a : Int)) && decide ((a : Int) ≤ T.hi)).map fun T : Tn => (T.rs.length : Int)).map V.int)) ∧ Same H7 Hb) ⟨upd_same, Same.new _ (Same.refl H7) hD3⟩ (fun b Hb _ z => SqL.of (z.2 _ _ (s07 _ _ hl))) (by
      rintro b v Hb hv ⟨eD, sb⟩
      obtain ⟨T1, hT1, dT⟩ := (dx.to (.of (s07.trans sb))).map' hv
      obtain ⟨t, rfl, aU⟩ := dt_tn dT
      obtain ⟨r, ht, hr2⟩ := id aU
      have step := filt_snoc (p := fun T : Tn => decide (T.lo ≤ (a : Int)) && decide ((a : Int) ≤ T.hi)) hT1
      have lim : ((cs.take b).filter fun T : Tn => decide (T.lo ≤ (a : Int)) && decide ((a : Int) ≤ T.hi)).length ≤ 1000 := Nat.le_trans (List.length_filter_le _ _) (by rw [List.length_take]; omega)
      refine ⟨rfl, _, rfl, t, _, _, _, rfl, rfl, SqT.of ht, at0, _, rfl, _, _, rfl, rfl, _, rfl, ite2 (fun z1 => ?_) (fun z1 => ?_)⟩
      · refine ⟨_, rfl, t, _, _, _, rfl, rfl, SqT.of ht, at1, _, _, rfl, rfl, _, rfl, ite2 (fun z2 => ?_) (fun z2 => ?_)⟩
        · rw [if_pos (by rw [z1, z2]; rfl)] at step
          refine ⟨_, rfl, t, _, _, _, rfl, rfl, SqT.of ht, at2, r, _, rfl, .inr (SqT.of hr2), _, eD, sz1m _ (by rw [List.length_map, List.length_map]; omega), ?_, fun b' o e => ?_⟩
          · rw [upd_same, step, List.map_append, List.map_append, List.length_map]
            rfl
          · rw [upd_ne (ne_of_none e hD3)]
            exact sb _ _ e
        · rw [if_neg (by rw [z1, Bool.true_and]; exact z2), List.append_nil] at step
          rw [step]
          exact ⟨eD, sb⟩
      · refine ⟨_, rfl, if_no rfl ?_⟩
        rw [if_neg (by rw [Bool.not_eq_true] at z1; rw [z1, Bool.false_and]; exact Bool.false_ne_true), List.append_nil] at step
        rw [step]
        exact ⟨eD, sb⟩) ?_
    rintro H8 ⟨eD3, s8⟩
    rw [lx, List.take_length] at eD3
    have ep : ((cs.filter fun T : Tn => decide (T.lo ≤ (a : Int)) && decide ((a : Int) ≤ T.hi)).map fun T : Tn => (T.rs.length : Int)).sum = (perC cs a : Int) := by
      unfold perC live
      exact sum_cast _ _
    have pb : perC cs a ≤ 12 * cs.length := by
      unfold perC live
      exact perC_bd good _
    refine ⟨D3, _, rfl, SqL.of eD3, ?_⟩
    rw [ep]
    refine normG (σ' := [some (.ref l), some (.int (num - (wb cs a : Int))), some (.ref M), none, some (.ref D), none, some (.int (a : Int)), some (.int (perC cs a : Int)), none]) rfl ?_
    try dsimp only
    obtain ⟨t0, et0⟩ : ∃ t0, t0 = a + 12 * ((num - wb cs a) / perC cs a) := ⟨_, rfl⟩
    rw [← et0] at fit rest low
    have e1 : (num : Int) - (wb cs a : Int) = ((num - wb cs a : Nat) : Int) := by omega
    have e2 : ((num - wb cs a : Nat) : Int).fdiv (perC cs a : Int) = (((num - wb cs a) / perC cs a : Nat) : Int) := by
      rw [Int.fdiv_eq_ediv_of_nonneg _ (by omega)]
      rfl
    have e3 : ((num - wb cs a : Nat) : Int).fmod (perC cs a : Int) = ((num - wb cs t0 : Nat) : Int) := by
      rw [Int.fmod_eq_emod_of_nonneg _ (by omega), rest]
      rfl
    refine ⟨_, rfl, _, rfl, _, rfl, _, _, rfl, rfl, ⟨by omega, by omega⟩, _, _, rfl, rfl, .inr ⟨by decide, by decide⟩, _, _, rfl, rfl, ?_⟩
    have e4 : (a : Int) + ((num : Int) - (wb cs a : Int)).fdiv (perC cs a : Int) * 12 = (t0 : Int) := by
      rw [e1, e2, et0]
      omega
    try dsimp only
    rw [e4]
    refine norm (N := fun σ _ => _) (σ' := [some (.ref l), some (.int (num - (wb cs a : Int))), some (.ref M), none, some (.ref D), none, some (.int (t0 : Int)), some (.int (perC cs a : Int)), none]) rfl ?_
    refine ⟨_, rfl, _, rfl, _, _, rfl, rfl, by omega, ?_⟩
    try dsimp only
    rw [e1, e3]
    refine normG (σ' := [some (.ref l), some (.int ((num - wb cs t0 : Nat) : Int)), some (.ref M), none, some (.ref D), none, some (.int (t0 : Int)), some (.int (perC cs a : Int)), none]) rfl ?_
    try dsimp only
    have s08 := s07.trans s8
    refine ⟨_, rfl, l, rfl, ⟨_, SqL.of (s08 _ _ hl)⟩, fun D4 hD4 => ?_⟩
    refine lc_list (K := K) (xs := xs) (fun b Hb => ∃ ds, Hb D4 = some (.lst ds) ∧ ds.length = ((cs.take b).filter fun T => T.has (t0 : Int)).length ∧ Same H8 Hb) ⟨[], upd_same, rfl, Same.new _ (Same.refl H8) hD4⟩ (fun b Hb _ z => by
      obtain ⟨ds, _, _, z⟩ := z
      exact SqL.of (z _ _ (s08 _ _ hl))) (by
        rintro b v Hb hv ⟨ds, eD, ld, sb⟩
        obtain ⟨T1, hT1, dT⟩ := (dx.to (.of (s08.trans sb))).map' hv
        obtain ⟨q, rfl, aU⟩ := dt_tn dT
        have step := filt_snoc (p := fun T : Tn => T.has (t0 : Int)) hT1
        have lim : ((cs.take b).filter fun T => T.has (t0 : Int)).length ≤ 1000 := Nat.le_trans (List.length_filter_le _ _) (by rw [List.length_take]; omega)
        refine ⟨rfl, _, rfl, _, rfl, q, T1, _, rfl, aU, _, rfl, ite2 (fun z => ?_) (fun z => ?_)⟩
        · rw [if_pos z] at step
          refine ⟨_, rfl, _, eD, sz1m _ (by omega), ds ++ [.ref q], upd_same, ?_, fun b' o e => ?_⟩
          · rw [step, List.length_append, List.length_append, ld]
            rfl
          · rw [upd_ne (ne_of_none e hD4)]
            exact sb _ _ e
        · rw [if_neg z, List.append_nil] at step
          rw [step]
          exact ⟨ds, eD, ld, sb⟩) ?_
    rintro H9 ⟨ds, eD4, ld, s9⟩
    rw [lx, List.take_length] at ld
    refine normG (σ' := [some (.ref l), some (.int ((num - wb cs t0 : Nat) : Int)), some (.ref M), none, some (.ref D), none, some (.int (t0 : Int)), some (.int (perC cs a : Int)), some (.ref D4)]) rfl ?_
    try dsimp only
    refine while_by (fun σ H' => ∃ (t : Nat) (Dd : Addr) (ds : List V), σ = [some (.ref l), some (.int ((num - wb cs t : Nat) : Int)), some (.ref M), none, some (.ref D), none, some (.int (t : Int)), some (.int (perC cs a : Int)), some (.ref Dd)] ∧ wb cs t ≤ num ∧ H' Dd = some (.lst ds) ∧ ds.length = (cs.filter fun T => T.has (t : Int)).length ∧ Same H H')
      (fun σ _ => match σ with | [_, _, _, _, _, _, some (.int t), _, _] => b.toNat - t.toNat | _ => 0) ⟨t0, D4, ds, rfl, low, eD4, ld, s08.trans s9⟩ ?_ ?_
    · rintro σ Ha ⟨t, Dd, ds, rfl, lw, eDd, ld, sa⟩
      have tb : t < b.toNat := by
        by_cases q : t < b.toNat
        · exact q
        · have := wb_mono (cols := cs) (a := b.toNat) (b := t) (by omega)
          omega
      have ws : wb cs (t + 1) = wb cs t + ds.length := by rw [wb_succ, dn_len, ld]
      refine ⟨_, rfl, _, rfl, Dd, _, rfl, .inl (SqL.of eDd), _, _, rfl, rfl, _, rfl, ite2 (fun z => ?_) (fun z => ?_)⟩
      · have z : (ds.length : Int) ≤ ((num - wb cs t : Nat) : Int) := of_decide_eq_true z
        refine ⟨_, rfl, _, rfl, Dd, _, rfl, .inl (SqL.of eDd), _, _, rfl, rfl, ?_⟩
        have e5 : ((num - wb cs t : Nat) : Int) - (ds.length : Int) = ((num - wb cs (t + 1) : Nat) : Int) := by omega
        try dsimp only
        rw [e5]
        refine norm (N := fun σ _ => _) (σ' := [some (.ref l), some (.int ((num - wb cs (t + 1) : Nat) : Int)), some (.ref M), none, some (.ref D), none, some (.int (t : Int)), some (.int (perC cs a : Int)), some (.ref Dd)]) rfl ?_
        try dsimp only
        refine ⟨_, rfl, _, _, rfl, rfl, ?_⟩
        refine norm (N := fun σ _ => _) (σ' := [some (.ref l), some (.int ((num - wb cs (t + 1) : Nat) : Int)), some (.ref M), none, some (.ref D), none, some (.int ((t + 1 : Nat) : Int)), some (.int (perC cs a : Int)), some (.ref Dd)]) rfl ?_
        try dsimp only
        refine ⟨_, rfl, l, rfl, ⟨_, SqL.of (sa _ _ hl)⟩, fun D5 hD5 => ?_⟩
        refine lc_list (K := K) (xs := xs) (fun b Hb => ∃ ds, Hb D5 = some (.lst ds) ∧ ds.length = ((cs.take b).filter fun T => T.has ((t + 1 : Nat) : Int)).length ∧ Same Ha Hb) ⟨[], upd_same, rfl, Same.new _ (Same.refl Ha) hD5⟩ (fun b Hb _ z => by
          obtain ⟨ds, _, _, z⟩ := z
          exact SqL.of (z _ _ (sa _ _ hl))) (by
            rintro b v Hb hv ⟨ds, eD, ld, sb⟩
            obtain ⟨T1, hT1, dT⟩ := (dx.to (.of (sa.trans sb))).map' hv
            obtain ⟨q, rfl, aU⟩ := dt_tn dT
            have step := filt_snoc (p := fun T : Tn => T.has ((t + 1 : Nat) : Int)) hT1
            have lim : ((cs.take b).filter fun T => T.has ((t + 1 : Nat) : Int)).length ≤ 1000 := Nat.le_trans (List.length_filter_le _ _) (by rw [List.length_take]; omega)
            refine ⟨rfl, _, rfl, _, rfl, q, T1, _, rfl, aU, _, rfl, ite2 (fun z => ?_) (fun z => ?_)⟩
            · rw [if_pos z] at step
              refine ⟨_, rfl, _, eD, sz1m _ (by omega), ds ++ [.ref q], upd_same, ?_, fun b' o e => ?_⟩
              · rw [step, List.length_append, List.length_append, ld]
                rfl
              · rw [upd_ne (ne_of_none e hD5)]
                exact sb _ _ e
            · rw [if_neg z, List.append_nil] at step
              rw [step]
              exact ⟨ds, eD, ld, sb⟩) ?_
        rintro Hb ⟨ds2, eD5, ld2, sb⟩
        rw [lx, List.take_length] at ld2
        refine ⟨⟨t + 1, D5, ds2, rfl, by omega, eD5, ld2, sa.trans sb⟩, ?_⟩
        show b.toNat - ((t + 1 : Nat) : Int).toNat < b.toNat - (t : Int).toNat
        omega
      · have z : ¬ (ds.length : Int) ≤ ((num - wb cs t : Nat) : Int) := fun y => z (decide_eq_true y)
        exact ⟨_, rfl, k t Ha sa (by omega) (by omega)⟩
    · rintro σ H2 Q1 Q2 hq ⟨z0, z1, z2, z3, z4, z5, z6, z7, z8, z9, z10, z11, z12, z13, z⟩
      exact ⟨z0, z1, z2, z3, z4, z5, z6, z7, z8, z9, z10, z11, z12, z13, hq _ _ z⟩
end
end K35
set_option maxHeartbeats 4000000
namespace K35
open PySem PySem.Spec PyProof.Rows L2 Z
theorem pg_tupK {X : Cx} {K : PySem.W.Frag} {es : List Expr} {k : Nat} {pos : Pos} {t : TGs} {n : Nat} (hK : X.K = K) (hc : X.calm = true) (h : PGs X es t)
    (hn : (assignEach es X.env).length = n := by rfl) (hst : (assignEach es X.env).findIdx? (·.1) = none := by rfl) : PG X (.Tuple es k pos) (gTup K n t) := hK ▸ pg_tup hc h hn hst
theorem cut_take {xs : List V} (n : Nat) : cutV xs none (some (n : Int)) = xs.take n := by
  unfold cutV
  rw [HT.sIx_none, HT.sIx_nat]
  show (xs.drop 0).take (min n xs.length - 0) = _
  rw [List.drop_zero, Nat.sub_zero]
  by_cases h : n ≤ xs.length
  · rw [Nat.min_eq_left h]
  · rw [Nat.min_eq_right (by omega), List.take_length, List.take_of_length_le (by omega)]
theorem chainLL {ta tb tc : TE} {σ : L2.St} {H : Hp} {Q : Bool → Hp → Prop} {a i b : Int} (ha : ∀ R : VK, R (.int a) H → ta σ H R) (hb : ∀ R : VK, R (.int i) H → tb σ H R) (hc : ∀ R : VK, R (.int b) H → tc σ H R) (q : Q (decide (a ≤ i ∧ i < b)) H) :
    tTest (tChain (rI0 fun i j => V.bl (decide (i ≤ j))) (rI0 fun i j => V.bl (decide (i < j))) ta tb tc) σ H Q := by
  refine ha _ (hb _ ⟨_, _, rfl, rfl, _, rfl, ite2 (fun h => ?_) (fun h => ?_)⟩)
  · have h : a ≤ i := of_decide_eq_true h
    refine hc _ ⟨_, _, rfl, rfl, _, rfl, ?_⟩
    rw [show decide (a ≤ i ∧ i < b) = decide (i < b) from decide_eq_decide.mpr ⟨fun z => z.2, fun z => ⟨h, z⟩⟩] at q
    exact q
  · have h : ¬ a ≤ i := fun z => h (decide_eq_true z)
    rw [decide_eq_false (fun z => h z.1)] at q
    exact ⟨_, rfl, q⟩
theorem take_at {α : Type} {l : List α} {n i : Nat} {x : α} (h : (l.take n)[i]? = some x) : i < n ∧ l[i]? = some x := by
  rw [List.getElem?_take] at h
  by_cases z : i < n
  · rw [if_pos z] at h
    exact ⟨z, h⟩
  · rw [if_neg z] at h
    cases h
theorem at_take {α : Type} {l : List α} {n i : Nat} {x : α} (h : l[i]? = some x) (z : i < n) : (l.take n)[i]? = some x := by
  rw [List.getElem?_take, if_pos z]
  exact h
structure TabsOk (tabs : List (List Tn)) : Prop where
  good : ∀ cs ∈ tabs, CGood cs
  few : ∀ cs ∈ tabs, cs.length ≤ 1000
  len : tabs.length ≤ 6
theorem tabs_ok {ls : List LpM} {n : Int} (l6 : ls.length ≤ 6) (ok : ∀ l ∈ ls, LpOk l) : TabsOk (tabsOf ls n) := by
  refine ⟨fun cs h => ?_, fun cs h => ?_, ?_⟩
  · obtain ⟨l, _, rfl⟩ := List.mem_map.mp h
    exact cols_good
  · obtain ⟨l, hl, rfl⟩ := List.mem_map.mp h
    have := (lpOk_st (ok l hl)).1
    rw [cols_len]
    omega
  · unfold tabsOf
    rw [List.length_map]
    exact l6
def spPos : Sp := fun vs H Q _ => ∃ (v nv : V) (tb : Addr) (tabs : List (List Tn)) (k : Nat), vs = [v, nv, .ref tb, .int (k : Int)] ∧ TabV H tb tabs ∧ TabsOk tabs ∧ k < pre tabs tabs.length ∧
  ∀ (a t i s : Nat) (cs : List Tn) (p : Addr) H', tabs[a]? = some cs → k = pre tabs a + (wb cs t + i) → (dn cs t)[i]? = some s → Same H H' → H' p = some (.tup [.int (a : Int), .int (t : Int), .int (s : Int)]) → Q (.ref p) H'
def spNAt : Sp := fun vs H Q _ => ∃ (tb : Addr) (tabs : List (List Tn)) (a s : Nat) (t : Int) (cs : List Tn), vs = [.ref tb, .int (a : Int), .int t, .int (s : Int)] ∧ TabV H tb tabs ∧ TabsOk tabs ∧ tabs[a]? = some cs ∧ 0 ≤ t ∧
  ∀ H', Same H H' → Q (.int ((pre tabs a + wb cs t.toNat + ((cs.take s).filter fun T => T.has t).length : Nat) : Int)) H'
/-- the turn of a counter -/
def toN (l : LpM) (n c : Int) : Option Int := if (c - lpL l n) % l.S = 0 ∧ 0 ≤ (c - lpL l n) / l.S ∧ (c - lpL l n) / l.S < lpN l n then some (if l.dn = true then lpN l n - 1 - (c - lpL l n) / l.S else (c - lpL l n) / l.S) else none
def toV : Option Int → V
  | none => .non
  | some t => .int t
def spTurnOf (K : PySem.W.Frag) : Sp := fun vs H Q _ => ∃ (v : V) (l : LpM) (n c : Int), vs = [v, .int n, .int c] ∧ LpOb K H v l ∧ LpOk l ∧ ∀ H', Same H H' → Q (toV (toN l n c)) H'
structure LT (P : Program) (w : World) (K : PySem.W.Frag) (mg : Str → Option Value) (base : Heap) : Prop where
  to : ∃ fd, FnOk P w K mg base CX0 4 (He.ma K (CL K) "turn_of") fd ["self", "n", "counter"] (spTurnOf K) ∧ Binds K fd ["self", "n", "counter"] [] ∧ Meth K (CL K) "turn_of" (He.ma K (CL K) "turn_of")
  dn : ∃ fd, FnOk P w K mg base CX0 3 (He.ma K (CSt K) "is_done") fd ["self", "i", "n"] (spDone K) ∧ Binds K fd ["self", "i", "n"] [] ∧ Meth K (CSt K) "is_done" (He.ma K (CSt K) "is_done")
section
variable {P : Program} {w : World} {K : PySem.W.Frag} {mg : Str → Option Value} {base : Heap}
theorem sc_position_of : FnScope ["program", "n", "tables", "number", "loop", "columns", "turn", "done", "statement", "turns"] ["program", "n", "tables", "number"] (defScope s_position_of) := ⟨rfl, rfl, rfl, by decide +kernel, rfl, by decide +kernel, by decide +kernel⟩
theorem ok_Pos {f : Addr} {fd : FuncData} (F : FnP K "position_of" s_position_of f fd) (T : LwTx K mg) (U : Nb mg) (dWIn : Dn P w K mg base 3 "works_in" ["columns"] spWIn) (dTW : Dn P w K mg base 3 "turn_with" ["columns", "number"] spTW)
    (dWBelow : Dn P w K mg base 2 "works_before" ["columns", "turn"] spWBelow) (dDoneIn : Dn P w K mg base 1 "is_done_in" ["turns", "turn"] spDoneIn) :
    FnOk P w K mg base CX0 4 f fd ["program", "n", "tables", "number"] spPos := by
  refine F.ok sc_position_of (fun vs H Q E h => ?_) (fun cdv A outer s H vs Q E hr h => ?_)
  · obtain ⟨v, nv, tb, tabs, k, rfl, _⟩ := h
    rfl
  · obtain ⟨v, nv, tb, tabs, k, rfl, hT, ok, kl, q⟩ := h
    refine ⟨_, PSs.nox (pss_cons (ps_set (i := 4) sc_position_of.nd rfl (Or.inl rfl) pe_int)
      (pss_cons (ps_while PassesOwn.never (pt_cmpR op_ge (pv 3) (pe_dn dWIn hr (pa_cons (pe_ix ix_list (pv 2) (pv 4) (fun _ _ => rfl)) pa_nil)) (nomark _)) (pss_cons (ps_aug (i := 3) sc_position_of.nd rfl (Or.inl rfl) (pe_dn dWIn hr (pa_cons (pe_ix ix_list (pv 2) (pv 4) (fun _ _ => rfl)) pa_nil)) ip_sub)
      (pss_one (ps_aug (i := 4) sc_position_of.nd rfl (Or.inl rfl) pe_int ip_add))))
      (pss_cons (ps_set (i := 5) sc_position_of.nd rfl (Or.inl rfl) (pe_ix ix_list (pv 2) (pv 4) (fun _ _ => rfl)))
      (pss_cons (ps_set (i := 6) sc_position_of.nd rfl (Or.inr rfl) (pe_dn dTW hr (pa_cons (pv 5) (pa_cons (pv 3) pa_nil))))
      (pss_cons (ps_aug (i := 3) sc_position_of.nd rfl (Or.inl rfl) (pe_dn dWBelow hr (pa_cons (pv 5) (pa_cons (pv 6) pa_nil))) ip_sub)
      (pss_cons (ps_setLc (i := 7) (own := [("statement", 8), ("turns", 9)]) rfl sc_position_of.nd rfl rfl (sw_true rfl rfl rfl (by decide +kernel)) (pi_enum (by rfl) U.enumerate (pa_cons (pv 5) pa_nil)) (blkOk_by (N := ["program", "n", "tables", "number", "loop", "columns", "turn", "done", "statement", "turns"]) (sc := defScope s_position_of) (by decide +kernel)) (fun _ _ _ _ _ => (pg_tupK (K := K) (n := 2) rfl rfl (pgs_cons (pg_name (i := 8) sc_position_of.nd rfl (.inl rfl)) (pgs_cons (pg_name (i := 9) sc_position_of.nd rfl (.inl rfl)) pgs_nil)))) (fun _ _ _ _ _ => (pts_one (pt_val (pe_dn dDoneIn hr (pa_cons (pv 9) (pa_cons (pv 6) pa_nil)))))) (fun _ _ _ _ _ => (pv 8)))
      (pss_one (ps_ret (pe_tup (pa_cons (pv 4) (pa_cons (pv 6) (pa_cons (pe_ix ix_list (pv 7) (pv 3) (fun _ _ => rfl)) pa_nil)))))))))))), ?_⟩
    obtain ⟨ps, hps, fps⟩ := id hT
    have lps : ps.length = tabs.length := fps.1
    refine normG (σ' := [some v, some nv, some (.ref tb), some (.int (k : Int)), some (.int 0), none, none, none, none, none]) rfl ?_
    try dsimp only
    have tabCol : ∀ {a : Nat} {cs : List Tn} {H' : Hp}, tabs[a]? = some cs → Same H H' → ∃ v l xs, ps[a]? = some (.ref l) ∧ v = V.ref l ∧ Cols H' l xs cs ∧ SqL K H' tb ps := fun e s' => by
      obtain ⟨v, hv, l, xs, rfl, hc⟩ := fps.at' e
      exact ⟨_, l, xs, hv, rfl, hc.same s', SqL.of (s' _ _ hps)⟩
    refine while_by (fun σ H' => ∃ a, σ = [some v, some nv, some (.ref tb), some (.int ((k - pre tabs a : Nat) : Int)), some (.int (a : Int)), none, none, none, none, none] ∧ pre tabs a ≤ k ∧ a ≤ tabs.length ∧ Same H H') (fun σ _ => match σ with | [_, _, _, _, some (.int a), _, _, _, _, _] => tabs.length - a.toNat | _ => 0) ⟨0, rfl, Nat.zero_le _, Nat.zero_le _, Same.refl H⟩ ?_ ?_
    · rintro σ H1 ⟨a, rfl, pa, al, s1⟩
      have al2 : a < tabs.length := by
        by_cases z : a = tabs.length
        · rw [z] at pa
          omega
        · omega
      obtain ⟨cs, hcs⟩ : ∃ cs, tabs[a]? = some cs := ⟨_, List.getElem?_eq_getElem al2⟩
      have good := ok.good cs (List.mem_of_getElem? hcs)
      have few := ok.few cs (List.mem_of_getElem? hcs)
      have ps1 := pre_succ hcs
      obtain ⟨_, l, xs, hl, _, hc, hq⟩ := tabCol hcs s1
      refine ⟨_, rfl, _, rfl, _, rfl, tb, _, _, _, rfl, rfl, hq, atI_nat hl, l, xs, cs, rfl, hc, few, fun H2 s2 => ?_⟩
      rw [wIn_is good]
      refine ⟨_, _, rfl, rfl, _, rfl, ite2 (fun z => ?_) (fun z => ?_)⟩
      · have z : (allOf cs : Int) ≤ ((k - pre tabs a : Nat) : Int) := of_decide_eq_true z
        obtain ⟨_, l2, xs2, hl2, _, hc2, hq2⟩ := tabCol hcs (s1.trans s2)
        refine ⟨_, rfl, _, rfl, _, rfl, tb, _, _, _, rfl, rfl, hq2, atI_nat hl2, l2, xs2, cs, rfl, hc2, few, fun H3 s3 => ?_⟩
        rw [wIn_is good]
        refine ⟨_, _, rfl, rfl, ?_⟩
        have e5 : ((k - pre tabs a : Nat) : Int) - (allOf cs : Int) = ((k - pre tabs (a + 1) : Nat) : Int) := by omega
        dsimp only
        rw [e5]
        refine norm (N := fun σ _ => _) (σ' := [some v, some nv, some (.ref tb), some (.int ((k - pre tabs (a + 1) : Nat) : Int)), some (.int (a : Int)), none, none, none, none, none]) rfl ?_
        try dsimp only
        refine ⟨_, rfl, _, _, rfl, rfl, ⟨a + 1, rfl, by omega, by omega, (s1.trans s2).trans s3⟩, ?_⟩
        show tabs.length - ((a + 1 : Nat) : Int).toNat < tabs.length - (a : Int).toNat
        omega
      · have z : ¬ (allOf cs : Int) ≤ ((k - pre tabs a : Nat) : Int) := fun y => z (decide_eq_true y)
        have s12 := s1.trans s2
        obtain ⟨_, l2, xs2, hl2, _, hc2, hq2⟩ := tabCol hcs s12
        refine ⟨_, rfl, _, rfl, tb, _, _, _, rfl, rfl, hq2, atI_nat hl2, ?_⟩
        refine normG (σ' := [some v, some nv, some (.ref tb), some (.int ((k - pre tabs a : Nat) : Int)), some (.int (a : Int)), some (.ref l2), none, none, none, none]) rfl ?_
        try dsimp only
        refine ⟨_, rfl, _, rfl, l2, xs2, cs, _, rfl, hc2, good, few, by omega, by omega, fun t H3 s3 w1 w2 => ?_⟩
        refine normG (σ' := [some v, some nv, some (.ref tb), some (.int ((k - pre tabs a : Nat) : Int)), some (.int (a : Int)), some (.ref l2), some (.int (t : Int)), none, none, none]) rfl ?_
        try dsimp only
        have hc3 := hc2.same s3
        refine ⟨_, rfl, _, rfl, _, rfl, l2, xs2, cs, (t : Int), rfl, hc3, few, fun H4 s4 => ?_⟩
        rw [wBelow_is good, Int.toNat_natCast]
        refine ⟨_, _, rfl, rfl, ?_⟩
        have e6 : ((k - pre tabs a : Nat) : Int) - (wb cs t : Int) = ((k - pre tabs a - wb cs t : Nat) : Int) := by omega
        dsimp only
        rw [e6]
        refine norm (N := fun σ _ => _) (σ' := [some v, some nv, some (.ref tb), some (.int ((k - pre tabs a - wb cs t : Nat) : Int)), some (.int (a : Int)), some (.ref l2), some (.int (t : Int)), none, none, none]) rfl ?_
        try dsimp only
        have hc4 := hc3.same s4
        have lx : xs2.length = cs.length := by rw [hc4.2.1.len, List.length_map]
        refine ⟨_, rfl, l2, xs2, rfl, SqL.of hc4.1, fun D hD => ?_⟩
        refine lc_it (walk_enum (K := K) (a := l2) (xs := xs2)) (fun b Hb => Hb D = some (.lst (((List.range b).filter fun (j : Nat) => dnAt cs t j).map fun (j : Nat) => V.int (j : Int))) ∧ Same H4 Hb) ⟨upd_same, Same.new _ (Same.refl H4) hD⟩ (fun b Hb _ z => SqL.of (z.2 _ _ hc4.1)) ?_ ?_
        · rintro b x Hb Hb' hb ⟨eD, sb⟩ ⟨T2, x1, y1, rfl, hT2, rfl, e1, e2⟩
          cases e1
          have sbT := sb.trans (Same.new (.tup [.int (b : Int), y1]) (Same.refl Hb) hT2)
          obtain ⟨T1, hT1, dT⟩ := (hc4.2.1.to (.of sbT)).map' e2
          obtain ⟨q1, rfl, aU⟩ := dt_tn dT
          have nD : T2 ≠ D := fun z => by
            rw [z, eD] at hT2
            cases hT2
          have eD2 : (upd Hb T2 (.tup [.int (b : Int), .ref q1])) D = some (.lst (((List.range b).filter fun (j : Nat) => dnAt cs t j).map fun (j : Nat) => V.int (j : Int))) := by
            rw [upd_ne (fun z => nD z.symm)]
            exact eD
          have dnb : dnAt cs t b = T1.has (t : Int) := by
            unfold dnAt
            rw [hT1]
          have step : (List.range (b + 1)).filter (fun (j : Nat) => dnAt cs t j) = (List.range b).filter (fun (j : Nat) => dnAt cs t j) ++ if T1.has (t : Int) = true then [b] else [] := by
            rw [List.range_succ, List.filter_append]
            congr 1
            show [b].filter _ = _
            by_cases z : T1.has (t : Int) = true
            · rw [if_pos z, List.filter_cons_of_pos (by rw [dnb]; exact z)]
              rfl
            · rw [if_neg z, List.filter_cons_of_neg (by rw [dnb]; exact z)]
              rfl
          have lim : ((List.range b).filter fun (j : Nat) => dnAt cs t j).length ≤ 1000 := Nat.le_trans (List.length_filter_le _ _) (by rw [List.length_range]; omega)
          refine ⟨T2, _, rfl, SqT.of upd_same, rfl, _, _, rfl, _, _, rfl, rfl, rfl, ?_⟩
          refine ⟨_, rfl, _, rfl, q1, T1, _, rfl, aU, _, rfl, ite2 (fun z => ?_) (fun z => ?_)⟩
          · rw [if_pos z] at step
            refine ⟨_, rfl, _, eD2, sz1m _ (by rw [List.length_map]; omega), ?_, fun b' o e => ?_⟩
            · rw [upd_same, step, List.map_append]
              rfl
            · rw [upd_ne (ne_of_none e hD)]
              exact sbT _ _ e
          · rw [if_neg z, List.append_nil] at step
            rw [step]
            exact ⟨eD2, sbT⟩
        · rintro H5 ⟨eD, s5⟩
          rw [lx] at eD
          refine normG (σ' := [some v, some nv, some (.ref tb), some (.int ((k - pre tabs a - wb cs t : Nat) : Int)), some (.int (a : Int)), some (.ref l2), some (.int (t : Int)), some (.ref D), none, none]) rfl ?_
          try dsimp only
          have w3 : k - pre tabs a < wb cs (t + 1) := by omega
          rw [wb_succ] at w3
          obtain ⟨s0, hs0⟩ : ∃ s0, (dn cs t)[k - pre tabs a - wb cs t]? = some s0 := ⟨_, List.getElem?_eq_getElem (by omega)⟩
          have hat : (((List.range cs.length).filter fun (j : Nat) => dnAt cs t j).map fun (j : Nat) => V.int (j : Int))[k - pre tabs a - wb cs t]? = some (V.int (s0 : Int)) := by
            rw [List.getElem?_map]
            show Option.map _ ((dn cs t)[k - pre tabs a - wb cs t]?) = _
            rw [hs0]
            rfl
          refine ⟨_, rfl, _, rfl, _, rfl, _, rfl, D, _, _, _, rfl, rfl, SqL.of eD, atI_nat hat, sz3, fun p hp => ?_⟩
          exact q a t (k - pre tabs a - wb cs t) s0 cs p _ hcs (by omega) hs0 ((((s12.trans s3).trans s4).trans s5).trans (Same.new _ (Same.refl H5) hp)) upd_same
    · rintro σ H2 Q1 Q2 hq ⟨z0, z1, z2, z3, z4, z5, z6, z7, z8, z9, z10, z11, z12, z13, z14, z15, z16, z17, z18, z19, z⟩
      exact ⟨z0, z1, z2, z3, z4, z5, z6, z7, z8, z9, z10, z11, z12, z13, z14, z15, z16, z17, z18, z19, fun H3 s3 => by
        obtain ⟨y0, y1, y2, y3, y4, y5, y⟩ := z H3 s3
        exact ⟨y0, y1, y2, y3, y4, y5, hq _ _ y⟩⟩
theorem sc_number_at : FnScope ["tables", "loop", "turn", "statement", "told", "columns", "turns"] ["tables", "loop", "turn", "statement"] (defScope s_number_at) := ⟨rfl, rfl, rfl, by decide +kernel, rfl, by decide +kernel, by decide +kernel⟩
theorem ok_NAt {f : Addr} {fd : FuncData} (F : FnP K "number_at" s_number_at f fd) (T : LwTx K mg) (U : Nb mg) (dWIn : Dn P w K mg base 3 "works_in" ["columns"] spWIn)
    (dWBelow : Dn P w K mg base 2 "works_before" ["columns", "turn"] spWBelow) (dDoneIn : Dn P w K mg base 1 "is_done_in" ["turns", "turn"] spDoneIn) :
    FnOk P w K mg base CX0 4 f fd ["tables", "loop", "turn", "statement"] spNAt := by
  refine F.ok sc_number_at (fun vs H Q E h => ?_) (fun cdv A outer s H vs Q E hr h => ?_)
  · obtain ⟨tb, tabs, a, s, t, cs, rfl, _⟩ := h
    rfl
  · obtain ⟨tb, tabs, a, s', t, cs, rfl, hT, ok, hcs, t0, q⟩ := h
    refine ⟨_, PSs.nox (pss_cons (ps_set (i := 4) sc_number_at.nd rfl (Or.inl rfl) (pe_op op_add (pe_callB (cr_sum rfl) (by rfl) T.sum (by decide +kernel) (pa_cons (pe_lc (own := [("columns", 5)]) (g := gName 5) (tt := tYes) rfl sc_number_at.nd (pi_list (pe_slice sl_list (pv 0) po_none (po_some (pv 1)))) (blkOk_by (N := ["tables", "loop", "turn", "statement", "told", "columns", "turns"]) (sc := defScope s_number_at) (by decide +kernel)) (fun _ _ _ _ _ => (pg_name (i := 5) sc_number_at.nd rfl (.inl rfl))) (fun _ _ _ _ _ => pts_nil) (fun _ _ _ _ _ => (pe_dn dWIn hr (pa_cons (pv 5) pa_nil)))) pa_nil)) (pe_dn dWBelow hr (pa_cons (pe_ix ix_list (pv 0) (pv 1) (fun _ _ => rfl)) (pa_cons (pv 2) pa_nil)))))
      (pss_one (ps_ret (pe_op op_add (pv 4) (pe_callB (cr_sum rfl) (by rfl) T.sum (by decide +kernel) (pa_cons (pe_lc (own := [("turns", 6)]) (g := gName 6) rfl sc_number_at.nd (pi_list (pe_slice sl_list (pe_ix ix_list (pv 0) (pv 1) (fun _ _ => rfl)) po_none (po_some (pv 3)))) (blkOk_by (N := ["tables", "loop", "turn", "statement", "told", "columns", "turns"]) (sc := defScope s_number_at) (by decide +kernel)) (fun _ _ _ _ _ => (pg_name (i := 6) sc_number_at.nd rfl (.inl rfl))) (fun _ _ _ _ _ => (pts_one (pt_val (pe_dn dDoneIn hr (pa_cons (pv 6) (pa_cons (pv 2) pa_nil)))))) (fun _ _ _ _ _ => pe_int)) pa_nil)))))), ?_⟩
    obtain ⟨ps, hps, fps⟩ := id hT
    have lps : ps.length = tabs.length := fps.1
    have tabCol : ∀ {a : Nat} {cs : List Tn} {H' : Hp}, tabs[a]? = some cs → Same H H' → ∃ v l xs, ps[a]? = some (.ref l) ∧ v = V.ref l ∧ Cols H' l xs cs ∧ SqL K H' tb ps := fun e s' => by
      obtain ⟨v, hv, l, xs, rfl, hc⟩ := fps.at' e
      exact ⟨_, l, xs, hv, rfl, hc.same s', SqL.of (s' _ _ hps)⟩
    have good := ok.good cs (List.mem_of_getElem? hcs)
    have few := ok.few cs (List.mem_of_getElem? hcs)
    have al : a < tabs.length := (List.getElem?_eq_some_iff.mp hcs).1
    have tl := ok.len
    refine ⟨_, rfl, _, rfl, _, rfl, tb, ps, rfl, SqL.of hps, fun B hB => ⟨B, rfl, ⟨_, SqL.of upd_same⟩, fun D hD => ?_⟩⟩
    rw [cut_take] at hD ⊢
    have s1 := Same.new (.lst (ps.take a)) (Same.refl H) hB
    have hB1 : (upd H B (.lst (ps.take a))) B = some (.lst (ps.take a)) := upd_same
    obtain ⟨H1, eH1⟩ : ∃ X, X = upd H B (.lst (ps.take a)) := ⟨_, rfl⟩
    rw [← eH1] at s1 hB1 hD ⊢
    refine lc_list (K := K) (xs := ps.take a) (fun b Hb => Hb D = some (.lst ((((tabs.take a).take b).map fun cs => (allOf cs : Int)).map V.int)) ∧ Same H1 Hb) ⟨upd_same, Same.new _ (Same.refl H1) hD⟩ (fun b Hb _ z => SqL.of (z.2 _ _ hB1)) (by
      rintro b v Hb hv ⟨eD, sb⟩
      obtain ⟨ba, hv⟩ := take_at hv
      obtain ⟨c2, hc2⟩ : ∃ c2, tabs[b]? = some c2 := ⟨_, List.getElem?_eq_getElem (by omega)⟩
      obtain ⟨_, l, xs, hl, _, hc, _⟩ := tabCol hc2 (s1.trans sb)
      rw [hl] at hv
      cases hv
      refine ⟨rfl, yes_of ⟨_, rfl, l, xs, c2, rfl, hc, ok.few _ (List.mem_of_getElem? hc2), fun H' s' => ?_⟩⟩
      rw [wIn_is (ok.good _ (List.mem_of_getElem? hc2))]
      have eD2 := s' _ _ eD
      refine ⟨_, eD2, sz1m _ (by rw [List.length_map, List.length_map, List.length_take, List.length_take]; omega), ?_, fun b' o e => ?_⟩
      · rw [upd_same, List.take_add_one, at_take hc2 ba, List.map_append, List.map_append]
        rfl
      · rw [upd_ne (ne_of_none e hD)]
        exact s' _ _ (sb _ _ e)) ?_
    rintro H2 ⟨eD, s2⟩
    have lpt : (ps.take a).length = (tabs.take a).length := by rw [List.length_take, List.length_take, lps]
    rw [lpt, List.take_length] at eD
    have s12 := s1.trans s2
    refine ⟨D, _, rfl, SqL.of eD, ?_⟩
    rw [sum_cast]
    obtain ⟨_, l, xs, hl, _, hc, hq⟩ := tabCol hcs s12
    refine ⟨_, rfl, _, rfl, tb, _, _, _, rfl, rfl, hq, atI_nat hl, _, rfl, l, xs, cs, t, rfl, hc, few, fun H3 s3 => ?_⟩
    rw [wBelow_is good]
    refine ⟨_, _, rfl, rfl, ?_⟩
    refine normG (σ' := [some (.ref tb), some (.int (a : Int)), some (.int t), some (.int (s' : Int)), some (.int ((pre tabs a : Int) + (wb cs t.toNat : Int))), none, none]) rfl ?_
    try dsimp only
    have s13 := s12.trans s3
    obtain ⟨_, l2, xs2, hl2, _, hc2, hq2⟩ := tabCol hcs s13
    have lx : xs2.length = cs.length := by rw [hc2.2.1.len, List.length_map]
    refine ⟨_, rfl, _, rfl, _, rfl, tb, _, _, _, rfl, rfl, hq2, atI_nat hl2, _, rfl, _, rfl, l2, xs2, rfl, SqL.of hc2.1, fun B2 hB2 => ⟨B2, rfl, ⟨_, SqL.of upd_same⟩, fun D2 hD2 => ?_⟩⟩
    rw [cut_take] at hD2 ⊢
    have s4 := Same.new (.lst (xs2.take s')) (Same.refl H3) hB2
    have hB4 : (upd H3 B2 (.lst (xs2.take s'))) B2 = some (.lst (xs2.take s')) := upd_same
    obtain ⟨H4, eH4⟩ : ∃ X, X = upd H3 B2 (.lst (xs2.take s')) := ⟨_, rfl⟩
    rw [← eH4] at s4 hB4 hD2 ⊢
    refine lc_list (K := K) (xs := xs2.take s') (fun b Hb => Hb D2 = some (.lst (List.replicate (((cs.take s').take b).filter fun T => T.has t).length (.int 1))) ∧ Same H4 Hb) ⟨upd_same, Same.new _ (Same.refl H4) hD2⟩ (fun b Hb _ z => SqL.of (z.2 _ _ hB4)) (by
      rintro b v Hb hv ⟨eD, sb⟩
      obtain ⟨bs, hv⟩ := take_at hv
      obtain ⟨T1, hT1, dT⟩ := (hc2.2.1.to (.of (s4.trans sb))).map' hv
      obtain ⟨q1, rfl, aU⟩ := dt_tn dT
      have step := filt_snoc (p := fun T : Tn => T.has t) (at_take hT1 bs)
      have lim : (((cs.take s').take b).filter fun T => T.has t).length ≤ 1000 := Nat.le_trans (List.length_filter_le _ _) (by rw [List.length_take, List.length_take]; omega)
      refine ⟨rfl, _, rfl, _, rfl, q1, T1, _, rfl, aU, _, rfl, ite2 (fun z => ?_) (fun z => ?_)⟩
      · rw [if_pos z] at step
        refine ⟨_, eD, sz1m _ (by rw [List.length_replicate]; omega), ?_, fun b' o e => ?_⟩
        · rw [upd_same, step, List.length_append]
          exact congrArg (fun z => some (HO.lst z)) (List.replicate_succ' ..).symm
        · rw [upd_ne (ne_of_none e hD2)]
          exact sb _ _ e
      · rw [if_neg z, List.append_nil] at step
        rw [step]
        exact ⟨eD, sb⟩) ?_
    rintro H5 ⟨eD2, s5⟩
    have lxt : (xs2.take s').length = (cs.take s').length := by rw [List.length_take, List.length_take, lx]
    rw [lxt, List.take_length] at eD2
    refine ⟨D2, List.replicate ((cs.take s').filter fun T => T.has t).length 1, rfl, SqL.of (by rw [List.map_replicate]; exact eD2), ?_⟩
    rw [sum_ones]
    refine ⟨_, _, rfl, rfl, ?_⟩
    have e9 : (pre tabs a : Int) + (wb cs t.toNat : Int) + (((cs.take s').filter fun T => T.has t).length : Int) = ((pre tabs a + wb cs t.toNat + ((cs.take s').filter fun T => T.has t).length : Nat) : Int) := by omega
    dsimp only
    rw [e9]
    exact q _ ((s13.trans s4).trans s5)
end
end K35
set_option maxHeartbeats 4000000
namespace K35
open PySem PySem.Spec PyProof.Rows L2 Z
theorem dn_mem {cs : List Tn} {t s : Nat} : s ∈ dn cs t ↔ s < cs.length ∧ dnAt cs t s = true := by
  unfold dn
  rw [List.mem_filter, List.mem_range]
theorem dn_nd (cs : List Tn) (t : Nat) : (dn cs t).Nodup := List.nodup_range.filter _
theorem dn_at {cs : List Tn} {t s : Nat} (h : s < cs.length) (hd : dnAt cs t s = true) : (dn cs t)[((cs.take s).filter fun T => T.has (t : Int)).length]? = some s := by
  rw [← dn_len0 s (by omega)]
  unfold dn
  obtain ⟨d, hd2⟩ : ∃ d, cs.length = s + 1 + d := ⟨cs.length - (s + 1), by omega⟩
  have e : List.range cs.length = List.range s ++ s :: (List.range d).map (s + 1 + ·) := by
    rw [hd2, List.range_add, List.range_succ, List.append_assoc]
    rfl
  rw [e, List.filter_append, List.getElem?_append_right (Nat.le_refl _), Nat.sub_self, List.filter_cons_of_pos hd]
  rfl
theorem dn_place {cs : List Tn} {t s i : Nat} (h : (dn cs t)[i]? = some s) : i = ((cs.take s).filter fun T => T.has (t : Int)).length := by
  have m := dn_mem.mp (List.mem_of_getElem? h)
  have q := dn_at m.1 m.2
  exact (List.getElem?_inj (List.getElem?_eq_some_iff.mp h).1 (dn_nd cs t)).mp (by rw [h, q])
theorem dn_turn {l : LpM} {n : Int} {t s : Nat} (h : s ∈ dn (cols l n) t) (ok : ∀ s ∈ l.sts, StOk s) : t < (lpN l n).toNat ∧ ∃ st, l.sts[s]? = some st ∧ stDone st (ctr l n t) n = true := by
  obtain ⟨h1, h2⟩ := dn_mem.mp h
  have h3 := h2
  unfold dnAt cols at h2
  rw [List.getElem?_map] at h2
  cases e : l.sts[s]? with
  | none =>
    rw [e] at h2
    cases h2
  | some st =>
    rw [e] at h2
    have h2 : (dtn l n st.gds).has (t : Int) = true := h2
    have g := (dtn_good (l := l) (n := n) (gds := st.gds)).2
    have hh := (Tn.has_iff.mp h2).2.1
    have tl : t < (lpN l n).toNat := by omega
    refine ⟨tl, st, rfl, ?_⟩
    rw [dnAt_is ok tl, e] at h3
    exact h3
/-- each number below the last is a place of a work -/
theorem pos_of {tabs : List (List Tn)} (good : ∀ cs ∈ tabs, CGood cs) : ∀ {m k : Nat}, m ≤ tabs.length → k < pre tabs m → ∃ a cs t i s, a < m ∧ tabs[a]? = some cs ∧ (dn cs t)[i]? = some s ∧ k = pre tabs a + (wb cs t + i)
  | 0, k, _, h => by
    unfold pre at h
    simp at h
  | m + 1, k, hm, h => by
    by_cases q : k < pre tabs m
    · obtain ⟨a, cs, t, i, s, h1, h2⟩ := pos_of good (by omega) q
      exact ⟨a, cs, t, i, s, by omega, h2⟩
    · obtain ⟨cs, hcs⟩ : ∃ cs, tabs[m]? = some cs := ⟨_, List.getElem?_eq_getElem (by omega)⟩
      rw [pre_succ hcs] at h
      have g := good cs (List.mem_of_getElem? hcs)
      obtain ⟨e, _, he⟩ := wb_end (cols := cs) fun T hT => (g T hT).lo
      obtain ⟨t, _, w1, w2⟩ := wb_turn (cols := cs) (num := k - pre tabs m) (M := e.toNat) (by omega)
      rw [wb_succ] at w2
      obtain ⟨s, hs⟩ : ∃ s, (dn cs t)[k - pre tabs m - wb cs t]? = some s := ⟨_, List.getElem?_eq_getElem (by omega)⟩
      exact ⟨m, cs, t, _, s, by omega, hcs, hs, by omega⟩
theorem works_len {ls : List LpM} {n : Int} (ok : ∀ l ∈ ls, ∀ s ∈ l.sts, StOk s) : (works ls n).length = pre (tabsOf ls n) ls.length := wA_pre ok _
theorem tabs_len (ls : List LpM) (n : Int) : (tabsOf ls n).length = ls.length := List.length_map ..
theorem tabs_at {ls : List LpM} {n : Int} {a : Nat} {cs : List Tn} (h : (tabsOf ls n)[a]? = some cs) : ∃ l, ls[a]? = some l ∧ cs = cols l n := by
  unfold tabsOf at h
  rw [List.getElem?_map] at h
  obtain ⟨l, hl, rfl⟩ := Option.map_eq_some_iff.mp h
  exact ⟨l, hl, rfl⟩
/-- a number of a work: its loop, turn, place -/
theorem works_pos {ls : List LpM} {n : Int} {k : Nat} {w : W3} (ok : ∀ l ∈ ls, LpOk l) (h : (works ls n)[k]? = some w) :
    ∃ (a : Nat) (l : LpM) (t i s : Nat), ls[a]? = some l ∧ t < (lpN l n).toNat ∧ (dn (cols l n) t)[i]? = some s ∧ k = pre (tabsOf ls n) a + (wb (cols l n) t + i) ∧ w = ((a : Int), ctr l n t, (s : Int)) := by
  have okS : ∀ l ∈ ls, ∀ s ∈ l.sts, StOk s := fun l hl => (lpOk_st (ok l hl)).2
  have hk := (List.getElem?_eq_some_iff.mp h).1
  rw [works_len okS, ← tabs_len ls n] at hk
  obtain ⟨a, cs, t, i, s, _, h2, h3, h4⟩ := pos_of (tabs := tabsOf ls n) (fun cs hc => by
    obtain ⟨l, _, rfl⟩ := List.mem_map.mp hc
    exact cols_good) (Nat.le_refl _) hk
  obtain ⟨l, hl, rfl⟩ := tabs_at h2
  have ht := (dn_turn (List.mem_of_getElem? h3) (okS l (List.mem_of_getElem? hl))).1
  have q := works_at okS hl ht h3
  rw [← h4, h] at q
  exact ⟨a, l, t, i, s, hl, ht, h3, h4, Option.some.inj q⟩
theorem S_ok {l : LpM} (ok : LpOk l) : 1 ≤ l.S := by
  obtain ⟨_, _, _, _, _, _, _, _, _, _, _, _, S0, S1, _⟩ := ok
  exact S0
end K35
set_option maxHeartbeats 4000000
namespace K35
open PySem PySem.Spec PyProof.Rows L2 Z
def Sz (K : PySem.W.Frag) (H : Hp) (nv : V) (E : XK) (G : Int → Prop) : Prop := (IntV H nv false ∧ RzV K "BadSize" ["n"] [nv] H E) ∨ ∃ n : Int, nv = .int n ∧ (¬ (0 ≤ n ∧ n ≤ TOP) → RzV K "BadSize" ["n"] [.int n] H E) ∧ (0 ≤ n ∧ n ≤ TOP → G n)
def spWAt (K : PySem.W.Frag) : Sp := fun vs H Q E => ∃ (v : V) (ls : List LpM) (nv : V) (k : Int), vs = [v, nv, .int k] ∧ PrOb K H v ls ∧ ls.length ≤ 6 ∧ (∀ l ∈ ls, LpOk l) ∧ Sz K H nv E fun n => (¬ (0 ≤ k ∧ k < ((works ls n).length : Int)) → RzV K "NoNumber" ["number"] [.int k] H E) ∧
  (0 ≤ k ∧ k < ((works ls n).length : Int) → ∀ (w : W3), (works ls n)[k.toNat]? = some w → ∀ p H', Same H H' → H' p = some (.tup [.int w.1, .int w.2.1, .int w.2.2]) → Q (.ref p) H')
theorem tot_cast {tabs : List (List Tn)} : (tabs.map fun cs => (allOf cs : Int)).sum = (pre tabs tabs.length : Int) := by
  unfold pre
  rw [List.take_length]
  exact sum_cast _ _
section
variable {P : Program} {w : World} {K : PySem.W.Frag} {mg : Str → Option Value} {base : Heap}
theorem sc_work_at : FnScope ["program", "n", "number", "tables", "columns", "loop", "turn", "statement"] ["program", "n", "number"] (defScope s_work_at) := ⟨rfl, rfl, rfl, by decide +kernel, rfl, by decide +kernel, by decide +kernel⟩
theorem ok_WAt {f : Addr} {fd : FuncData} (F : FnP K "work_at" s_work_at f fd) (T : LwTx K mg) (dCkZ : Dx P w K mg base 4 "check_size" ["n"] (spCkZ K)) (dTO : Dn P w K mg base 7 "turns_of" ["program", "n"] (spTO K)) (dWIn : Dn P w K mg base 3 "works_in" ["columns"] spWIn)
    (dPos : Dn P w K mg base 4 "position_of" ["program", "n", "tables", "number"] spPos) (L : LMs P w K mg base) (MN : Mx P w K mg base "NoNumber" ["self", "number"] ["number"]) :
    FnOk P w K mg base (L2.CX P w) 8 f fd ["program", "n", "number"] (spWAt K) := by
  refine F.ok sc_work_at (fun vs H Q E h => ?_) (fun cdv A outer s H vs Q E hr h => ?_)
  · obtain ⟨v, ls, nv, k, rfl, _⟩ := h
    rfl
  · obtain ⟨v, ls, nv, k, rfl, hP, l6, ok, hz⟩ := h
    have okS : ∀ l ∈ ls, ∀ s ∈ l.sts, StOk s := fun l hl => (lpOk_st (ok l hl)).2
    obtain ⟨fdo, Fo, hbo, co⟩ := L.co
    refine ⟨_, (pss_cons (ps_expr (pe_dx (K := K) dCkZ rfl hr (fun σ => passAt (takes_of rfl rfl rfl rfl) σ) (pa_cons (pv 1) pa_nil)))
      (pss_cons (ps_set (i := 3) sc_work_at.nd rfl (Or.inl rfl) (pe_dn dTO hr (pa_cons (pv 0) (pa_cons (pv 1) pa_nil))))
      (pss_cons (ps_if (pt_not (pt_chain op_le op_lt pe_int (pv 2) (pe_callB (cr_sum rfl) (by rfl) T.sum (by decide +kernel) (pa_cons (pe_lc (own := [("columns", 4)]) (g := gName 4) (tt := tYes) rfl sc_work_at.nd (pi_list (pv 3)) (blkOk_by (N := ["program", "n", "number", "tables", "columns", "loop", "turn", "statement"]) (sc := defScope s_work_at) (by decide +kernel)) (fun _ _ _ _ _ => (pg_name (i := 4) sc_work_at.nd rfl (.inl rfl))) (fun _ _ _ _ _ => pts_nil) (fun _ _ _ _ _ => (pe_dn dWIn hr (pa_cons (pv 4) pa_nil)))) pa_nil)))) (pss_one (ps_raise rfl (takes_of rfl rfl rfl rfl) (pmk_err MN hr (pa_cons (pv 2) pa_nil)))) pss_nil)
      (pss_cons (ps_asg (pe_dn dPos hr (pa_cons (pv 0) (pa_cons (pv 1) (pa_cons (pv 3) (pa_cons (pv 2) pa_nil))))) (pg_tup (by rfl) (pgs_cons (pg_name (i := 5) sc_work_at.nd rfl (.inl rfl)) (pgs_cons (pg_name (i := 6) sc_work_at.nd rfl (.inl rfl)) (pgs_cons (pg_name (i := 7) sc_work_at.nd rfl (.inl rfl)) pgs_nil)))))
      (pss_one (ps_ret (pe_tup (pa_cons (pv 5) (pa_cons (pe_meth (pe_ix (ix_tupK (K := K) rfl) (pe_fld (pv 0) rfl) (pv 5) (fun _ _ => rfl)) T.clL co Fo (hr.mono (by decide)) hbo .nil pass0 (pa_cons (pv 1) (pa_cons (pv 6) pa_nil))) (pa_cons (pv 7) pa_nil)))))))))), ?_⟩
    refine ⟨_, rfl, nv, rfl, ?_⟩
    rcases hz with ⟨iv, k⟩ | ⟨n, rfl, k1, k2⟩
    · exact .inl ⟨iv, k⟩
    refine .inr ⟨n, rfl, k1, fun hn => ?_⟩
    obtain ⟨k3, k4⟩ := k2 hn
    refine ⟨_, rfl, _, rfl, v, ls, n, rfl, hP, l6, ok, fun tb H1 s1 hT => ?_⟩
    obtain ⟨ps, hps, fps⟩ := id hT
    have tok := tabs_ok (n := n) l6 ok
    have lps : ps.length = (tabsOf ls n).length := fps.1
    refine normG (σ' := [some v, some (.int n), some (.int k), some (.ref tb), none, none, none, none]) rfl ?_
    try dsimp only
    have bad : RzV K "NoNumber" ["number"] [.int k] H E → _ := fun z => err_go (K := K) (x := "NoNumber") (fs := ["number"]) (vs := [.int k]) (H1 := H) (Q := E) (by show 1 ≤ 1000; decide) rfl z
    refine ⟨_, rfl, _, _, rfl, rfl, _, rfl, ite2 (fun h0 => ?_) (fun h0 => ?_)⟩
    · have h0 : 0 ≤ k := of_decide_eq_true h0
      refine ⟨_, rfl, ?_⟩
      refine ⟨tb, rfl, ⟨_, SqL.of hps⟩, fun D hD => ?_⟩
      refine lc_list (K := K) (xs := ps) (fun b Hb => Hb D = some (.lst ((((tabsOf ls n).take b).map fun cs => (allOf cs : Int)).map V.int)) ∧ Same H1 Hb) ⟨upd_same, Same.new _ (Same.refl H1) hD⟩ (fun b Hb _ z => SqL.of (z.2 _ _ hps)) (by
        rintro b v Hb hv ⟨eD, sb⟩
        obtain ⟨cs, hcs, l, xs, rfl, hc⟩ := (fps.imp fun _ _ z => z.same sb).at hv
        have bl := (List.getElem?_eq_some_iff.mp hcs).1
        have tl := tok.len
        refine ⟨rfl, yes_of ⟨_, rfl, l, xs, cs, rfl, hc, tok.few _ (List.mem_of_getElem? hcs), fun H' s' => ?_⟩⟩
        rw [wIn_is (tok.good _ (List.mem_of_getElem? hcs))]
        have eD2 := s' _ _ eD
        refine ⟨_, eD2, sz1m _ (by rw [List.length_map, List.length_map, List.length_take]; omega), ?_, fun b' o e => ?_⟩
        · rw [upd_same, List.take_add_one, hcs, List.map_append, List.map_append]
          rfl
        · rw [upd_ne (ne_of_none e hD)]
          exact s' _ _ (sb _ _ e)) ?_
      rintro H2 ⟨eD, s2⟩
      rw [lps, List.take_length] at eD
      refine ⟨D, _, rfl, SqL.of eD, ?_⟩
      rw [tot_cast, tabs_len, ← works_len okS]
      have s12 := s1.trans s2
      refine ⟨_, _, rfl, rfl, _, rfl, ?_⟩
      by_cases h1 : k < ((works ls n).length : Int)
      · rw [decide_eq_true h1]
        refine iteF ?_
        obtain ⟨k, rfl⟩ : ∃ k' : Nat, k = (k' : Int) := ⟨k.toNat, by omega⟩
        have k4 := k4 ⟨h0, h1⟩
        rw [Int.toNat_natCast] at k4
        refine ⟨_, rfl, _, rfl, _, rfl, _, rfl, v, _, tb, _, k, rfl, hT.same s2, tok, (by rw [tabs_len, ← works_len okS]; omega), fun a t i s' cs q H3 hcs ek hs s3 hq => ?_⟩
        obtain ⟨l, hl, rfl⟩ := tabs_at hcs
        have okl := ok l (List.mem_of_getElem? hl)
        have ht := (dn_turn (List.mem_of_getElem? hs) (lpOk_st okl).2).1
        have hw := works_at okS hl ht hs
        rw [← ek] at hw
        have s13 := s12.trans s3
        refine ⟨q, _, rfl, SqT.of hq, rfl, _, _, rfl, _, _, rfl, _, _, rfl, rfl, ?_⟩
        refine norm (N := fun σ _ => _) (σ' := [some v, some (.int n), some (.int (k : Int)), some (.ref tb), none, some (.int (a : Int)), some (.int (t : Int)), some (.int (s' : Int))]) rfl ?_
        try dsimp only
        obtain ⟨p, xs, ys, rfl, ⟨dx, lt, at_, dk, hp, hlt, hat⟩, fa⟩ := hP
        obtain ⟨u, hu, hob⟩ := fa.at' hl
        have hob3 := hob.same s13
        obtain ⟨pl, dl, lo, hi, st, rfl, hpl⟩ := id hob3.ref
        refine ⟨_, rfl, _, rfl, p, _, dx, _, _, rfl, s13 _ _ hp, T.clP, T.nPL, prf_l _ _ _, _, rfl, lt, _, _, _, rfl, rfl, SqT.same hlt s13, atI_nat hu, pl, dl, _, rfl, hpl, no_co _ _ _ _ _, _, rfl, _, rfl, _, l, n, (t : Int), rfl, hob3, okl, by omega, by omega, ?_⟩
        refine ⟨_, rfl, sz3, fun q2 hq2 => ?_⟩
        exact k4 _ hw q2 _ (s13.trans (Same.new _ (Same.refl H3) hq2)) upd_same
      · rw [decide_eq_false h1]
        exact iteT ⟨_, rfl, err_go (K := K) (x := "NoNumber") (fs := ["number"]) (vs := [.int k]) (H1 := H2) (Q := E) (by show 1 ≤ 1000; decide) rfl ((k3 fun z => h1 z.2).same s12)⟩
    · have h0 : ¬ 0 ≤ k := fun z => h0 (decide_eq_true z)
      refine ⟨_, rfl, ?_⟩
      exact iteT ⟨_, rfl, err_go (K := K) (x := "NoNumber") (fs := ["number"]) (vs := [.int k]) (H1 := H1) (Q := E) (by show 1 ≤ 1000; decide) rfl ((k3 fun z => h0 z.1).same s1)⟩
end
end K35
set_option maxHeartbeats 4000000
namespace Z
open PySem PySem.Spec PyProof.Rows L2
mutual
inductive DL (P : Addr → Prop) (H : Hp) : V → PyData → Prop
  | non : DL P H .non .none
  | bl (b : Bool) : DL P H (.bl b) (.bool b)
  | int (i : Int) : DL P H (.int i) (.int i)
  | str (x : Str) : DL P H (.str x) (.str x)
  | tup {a : Addr} {xs : List V} {ds : List PyData} : H a = some (.tup xs) → DLs P H xs ds → DL P H (.ref a) (.tuple ds)
  | lst {a : Addr} {xs : List V} {ds : List PyData} : P a → H a = some (.lst xs) → DLs P H xs ds → DL P H (.ref a) (.list ds)
inductive DLs (P : Addr → Prop) (H : Hp) : List V → List PyData → Prop
  | nil : DLs P H [] []
  | cons {v : V} {vs : List V} {d : PyData} {ds : List PyData} : DL P H v d → DLs P H vs ds → DLs P H (v :: vs) (d :: ds)
end
/-- tuples stand, and the lists among P -/
def LS (P : Addr → Prop) (H H' : Hp) : Prop := (∀ a xs, H a = some (.tup xs) → H' a = some (.tup xs)) ∧ ∀ a xs, P a → H a = some (.lst xs) → H' a = some (.lst xs)
section
variable {P P' : Addr → Prop} {H H1 H2 H' : Hp} {D p : Addr} {o u : HO}
theorem LS.refl (P : Addr → Prop) (H : Hp) : LS P H H := ⟨fun _ _ e => e, fun _ _ _ e => e⟩
theorem LS.trans (a : LS P H H1) (b : LS P H1 H2) : LS P H H2 := ⟨fun c xs e => b.1 c xs (a.1 c xs e), fun c xs q e => b.2 c xs q (a.2 c xs q e)⟩
theorem LS.of (s : Same H H') : LS P H H' := ⟨fun a xs e => s a _ e, fun a xs _ e => s a _ e⟩
theorem LS.keepO (e : H p = some o) (n1 : ∀ xs, o ≠ .tup xs) (n2 : ∀ xs, o ≠ .lst xs) (k : Keep p H H') : LS P H H' :=
  ⟨fun a xs ea => k a _ (fun z => by
    rw [z, e] at ea
    exact n1 xs (Option.some.inj ea)) ea, fun a xs _ ea => k a _ (fun z => by
    rw [z, e] at ea
    exact n2 xs (Option.some.inj ea)) ea⟩
/-- a list that is not among P is changed -/
theorem LS.updL {xs : List V} (e : H D = some (.lst xs)) (n : ¬ P D) : LS P H (upd H D u) :=
  ⟨fun a ys ea => by
    rw [upd_ne (ne_of ea e (by intro z; cases z))]
    exact ea, fun a ys q ea => by
    rw [upd_ne (fun z : a = D => n (z ▸ q))]
    exact ea⟩
theorem LS.new (n : H D = none) : LS P H (upd H D u) := LS.of (Same.new _ (Same.refl H) n)
theorem LS.imp (s : LS P H H') (h : ∀ a, P' a → P a) : LS P' H H' := ⟨s.1, fun a xs q e => s.2 a xs (h a q) e⟩
end
mutual
theorem DL.mono {P P' : Addr → Prop} {H H' : Hp} (s : LS P H H') (h : ∀ a, P a → P' a) : ∀ (d : PyData) {v : V}, DL P H v d → DL P' H' v d
  | .none, _, z => by cases z; exact .non
  | .bool b, _, z => by cases z; exact .bl b
  | .int i, _, z => by cases z; exact .int i
  | .str x, _, z => by cases z; exact .str x
  | .list ds, _, z => by
    cases z with
    | lst p e r => exact .lst (h _ p) (s.2 _ _ p e) (DLs.mono s h ds r)
  | .tuple ds, _, z => by
    cases z with
    | tup e r => exact .tup (s.1 _ _ e) (DLs.mono s h ds r)
  | .dict _, _, z => by cases z
theorem DLs.mono {P P' : Addr → Prop} {H H' : Hp} (s : LS P H H') (h : ∀ a, P a → P' a) : ∀ (ds : List PyData) {vs : List V}, DLs P H vs ds → DLs P' H' vs ds
  | [], _, z => by cases z; exact .nil
  | d :: ds, _, z => by
    cases z with
    | cons a b => exact .cons (DL.mono s h d a) (DLs.mono s h ds b)
end
section
variable {P P' : Addr → Prop} {H H' : Hp} {v : V} {vs : List V}
theorem DL.to {d : PyData} (h : DL P H v d) (s : LS P H H') : DL P H' v d := DL.mono s (fun _ z => z) d h
theorem DLs.to {ds : List PyData} (h : DLs P H vs ds) (s : LS P H H') : DLs P H' vs ds := DLs.mono s (fun _ z => z) ds h
theorem DL.imp {d : PyData} (h : DL P H v d) (k : ∀ a, P a → P' a) : DL P' H v d := DL.mono (LS.refl P H) k d h
theorem DLs.imp {ds : List PyData} (h : DLs P H vs ds) (k : ∀ a, P a → P' a) : DLs P' H vs ds := DLs.mono (LS.refl P H) k ds h
theorem DL.same {d : PyData} (h : DL P H v d) (s : Same H H') : DL P H' v d := h.to (.of s)
theorem DLs.same {ds : List PyData} (h : DLs P H vs ds) (s : Same H H') : DLs P H' vs ds := h.to (.of s)
theorem DLs.len : ∀ {ds : List PyData} {vs : List V}, DLs P H vs ds → vs.length = ds.length
  | [], _, h => by cases h; rfl
  | d :: ds, _, h => by
    cases h with
    | cons a b => rw [List.length_cons, List.length_cons, DLs.len b]
theorem DLs.get : ∀ {ds : List PyData} {ws : List V} (i : Nat) (d : PyData), DLs P H ws ds → ds[i]? = some d → ∃ v, ws[i]? = some v ∧ DL P H v d
  | [], _, _, _, _, e => by cases e
  | _ :: _, _, 0, d', h, e => by
    cases h with
    | cons a b =>
      cases (Option.some.inj e)
      exact ⟨_, rfl, a⟩
  | _ :: ds, _, i + 1, d', h, e => by
    cases h with
    | cons a b => exact DLs.get i d' b (show ds[i]? = some d' from e)
theorem DLs.get' {ds : List PyData} {ws : List V} {i : Nat} {v : V} (h : DLs P H ws ds) (e : ws[i]? = some v) : ∃ d, ds[i]? = some d ∧ DL P H v d := by
  have hi : i < ds.length := by
    rw [← h.len]
    exact (List.getElem?_eq_some_iff.mp e).1
  obtain ⟨u, e2, k⟩ := DLs.get i _ h (List.getElem?_eq_getElem hi)
  rw [e] at e2
  cases e2
  exact ⟨_, List.getElem?_eq_getElem hi, k⟩
theorem DLs.map' {α : Type} {f : α → PyData} {as : List α} {ws : List V} {i : Nat} {v : V} (h : DLs P H ws (as.map f)) (e : ws[i]? = some v) : ∃ a, as[i]? = some a ∧ DL P H v (f a) := by
  obtain ⟨d, hd, k⟩ := h.get' e
  rw [List.getElem?_map] at hd
  obtain ⟨a, ha, rfl⟩ := Option.map_eq_some_iff.mp hd
  exact ⟨a, ha, k⟩
theorem DLs.app : ∀ {ds es : List PyData} {vs ws : List V}, DLs P H vs ds → DLs P H ws es → DLs P H (vs ++ ws) (ds ++ es)
  | [], _, _, _, h, k => by cases h; exact k
  | d :: ds, _, _, _, h, k => by
    cases h with
    | cons a b => exact .cons a (DLs.app b k)
theorem DLs.one {d : PyData} (h : DL P H v d) : DLs P H [v] [d] := .cons h .nil
theorem DLs.snoc {α : Type} {f : α → PyData} {as : List α} {a : α} (h : DLs P H vs (as.map f)) (k : DL P H v (f a)) : DLs P H (vs ++ [v]) ((as ++ [a]).map f) := by
  rw [List.map_append]
  exact h.app (.one k)
theorem DLs.take : ∀ {ds : List PyData} {vs : List V} (k : Nat), DLs P H vs ds → DLs P H (vs.take k) (ds.take k)
  | _, _, 0, _ => .nil
  | [], _, k + 1, h => by cases h; exact .nil
  | d :: ds, _, k + 1, h => by
    cases h with
    | cons a b => exact .cons a (DLs.take k b)
theorem DLs.drop : ∀ {ds : List PyData} {vs : List V} (k : Nat), DLs P H vs ds → DLs P H (vs.drop k) (ds.drop k)
  | _, _, 0, h => h
  | [], _, k + 1, h => by cases h; exact .nil
  | d :: ds, _, k + 1, h => by
    cases h with
    | cons a b => exact DLs.drop k b
theorem DL.tup' {ds : List PyData} (h : DL P H v (.tuple ds)) : ∃ a xs, v = .ref a ∧ H a = some (.tup xs) ∧ DLs P H xs ds := by
  cases h with
  | tup e r => exact ⟨_, _, rfl, e, r⟩
theorem DL.lst' {ds : List PyData} (h : DL P H v (.list ds)) : ∃ a xs, v = .ref a ∧ P a ∧ H a = some (.lst xs) ∧ DLs P H xs ds := by
  cases h with
  | lst p e r => exact ⟨_, _, rfl, p, e, r⟩
end
end Z
set_option maxHeartbeats 4000000
namespace K35
open PySem PySem.Spec PyProof.Rows L2 Z
def gdR : Gd → PyData
  | .lea a b c => .tuple [.str "least", .int a, .int b, .int c]
  | .rst a b c m r => .tuple [.str "rest", .int a, .int b, .int c, .int m, .int r]
def rdR (r : RdM) : PyData := .tuple [.str r.x, .int r.a, .int r.b, .int r.c, .int r.d]
def stR (s : StM) : PyData := .tuple [.str s.x, i3 s.a s.b s.c, .list (s.rds.map rdR), .list (s.gds.map gdR)]
def lpR (l : LpM) : PyData := .tuple [i3 l.l0 l.l1 l.l2, i3 l.h0 l.h1 l.h2, .int l.S, .bool l.dn, .list (l.sts.map stR)]
/-- what stood before still stands in some form -/
def Gr (H H' : Hp) : Prop := ∀ a, H a ≠ none → H' a ≠ none
theorem Gr.refl (H : Hp) : Gr H H := fun _ z => z
theorem Gr.trans {H H1 H2 : Hp} (a : Gr H H1) (b : Gr H1 H2) : Gr H H2 := fun c z => b c (a c z)
theorem Gr.of {H H' : Hp} (s : Same H H') : Gr H H' := fun a z => by
  cases e : H a with
  | none => exact absurd e z
  | some o =>
    rw [s _ _ e]
    exact fun y => by cases y
theorem Gr.keep {H H' : Hp} {p pc : Addr} {t : Nat} (k : Keep p H H') (h : PenC H' p pc t) : Gr H H' := fun a z => by
  by_cases q : a = p
  · obtain ⟨ns, x, l, h1, _⟩ := h
    rw [q, h1]
    exact fun y => by cases y
  · cases e : H a with
    | none => exact absurd e z
    | some o =>
      rw [k _ _ q e]
      exact fun y => by cases y
theorem Gr.upd {H : Hp} {D : Addr} {o : HO} : Gr H (upd H D o) := fun a z => by
  by_cases q : a = D
  · rw [q, upd_same]
    exact fun y => by cases y
  · rw [upd_ne q]
    exact z
theorem Gr.new {H H' : Hp} (g : Gr H H') {a : Addr} (h : H' a = none) : H a = none := by
  cases e : H a with
  | none => rfl
  | some o => exact absurd h (g a (by rw [e]; exact fun y => by cases y))
theorem LS.pen {P : Addr → Prop} {H H' : Hp} {p pc : Addr} {t : Nat} (h : PenC H p pc t) (k : Keep p H H') : LS P H H' := by
  obtain ⟨ns, x, l, h1, _⟩ := h
  exact LS.keepO h1 (fun _ z => by cases z) (fun _ z => by cases z) k
/-- no list at all -/
abbrev Nn : Addr → Prop := fun _ => False
/-- new since H -/
abbrev Nw (H : Hp) : Addr → Prop := fun a => H a = none
def spSigned : Sp := fun vs H Q _ => ∃ (p pc : Addr) (m : Int) (t : Nat), vs = [.ref p, .int m] ∧ 0 ≤ m ∧ m ≤ 100000 ∧ t < 990000000 ∧ PenC H p pc t ∧ ∀ H' (d : Int), -m ≤ d → d ≤ m → PenC H' p pc (t + 1) → Keep p H H' → Q (.int d) H'
def spName : Sp := fun vs H Q _ => ∃ (p pc : Addr) (t : Nat), vs = [.ref p] ∧ t < 990000000 ∧ PenC H p pc t ∧ ∀ H' (x : Str), NmOk x → PenC H' p pc (t + 9) → Keep p H H' → Q (.str x) H'
def spCRow : Sp := fun vs H Q _ => ∃ (p pc : Addr) (m : Int) (t : Nat), vs = [.ref p, .int m] ∧ 0 ≤ m ∧ m ≤ 600 ∧ t < 980000000 ∧ PenC H p pc t ∧ ∀ H' (v : V) (g : Gd), GdOk g → DL (Nw H) H' v (gdR g) → PenC H' p pc (t + 6) → Keep p H H' → Q v H'
/-- a text of letters is a name, unless it is kept -/
theorem name_of {x : Str} {cs : List Nat} (e : x.cps.toList = cs) (h1 : 1 ≤ cs.length) (h8 : cs.length ≤ 8) (hl : ∀ c ∈ cs, c ∈ lets.cps.toList) (hk : x ∉ kept) : isName x = true := by
  have xl : x.length = cs.length := by
    rw [← e, Array.length_toList]
    rfl
  unfold isName
  rw [decide_eq_true (show 1 ≤ x.length ∧ x.length ≤ 8 by omega), Bool.true_and, decide_eq_true hk, Bool.and_true, e]
  exact List.all_eq_true.mpr fun c hc => decide_eq_true (hl c hc)
theorem app_one (x : Str) (c : Nat) : (x ++ (⟨#[c]⟩ : Str)).cps.toList = x.cps.toList ++ [c] := by
  show (x.cps ++ #[c]).toList = _
  simp
theorem lets_at : ∀ j : Nat, j < 26 → ∃ c, lets.cps.toList[j]? = some c ∧ c ∈ lets.cps.toList := by
  intro j hj
  have hl : lets.cps.toList.length = 26 := by decide +kernel
  exact ⟨_, List.getElem?_eq_getElem (by omega), List.getElem_mem _⟩
theorem str_len (x : Str) : x.length = x.cps.toList.length := (Array.length_toList).symm
theorem sz6 : 6 ≤ sizeLine := by show 6 ≤ sizeLine; decide
theorem sz4 : 4 ≤ sizeLine := by show 4 ≤ sizeLine; decide
theorem sz5 : 5 ≤ sizeLine := by show 5 ≤ sizeLine; decide
def firstL : Str := "cghjklopqrstuvwxyz"
theorem first_at : ∀ j : Nat, j < 18 → ∃ c, firstL.cps.toList[j]? = some c ∧ c ∈ lets.cps.toList ∧ ∀ y ∈ kept, y.cps.toList.head? ≠ some c := by
  have h : ∀ c ∈ firstL.cps.toList, c ∈ lets.cps.toList ∧ ∀ y ∈ kept, y.cps.toList.head? ≠ some c := by decide +kernel
  intro j hj
  have hl : firstL.cps.toList.length = 18 := by decide +kernel
  have e := List.getElem?_eq_getElem (l := firstL.cps.toList) (i := j) (by omega)
  exact ⟨_, e, h _ (List.mem_of_getElem? e)⟩
section
variable {P : Program} {w : World} {K : PySem.W.Frag} {mg : Str → Option Value} {base : Heap}
theorem sc_law_signed : FnScope ["_law_pen", "_law_most"] ["_law_pen", "_law_most"] (defScope s_law_signed) := ⟨rfl, rfl, rfl, by decide +kernel, rfl, by decide +kernel, by decide +kernel⟩
theorem ok_signed {f : Addr} {fd : FuncData} (F : FnP K "_law_signed" s_law_signed f fd) (dDraw : Dn P w K mg base 1 "_law_draw" ["_law_pen", "_law_many_here"] spDraw) : FnOk P w K mg base CX0 2 f fd ["_law_pen", "_law_most"] spSigned := by
  refine F.ok sc_law_signed (fun vs H Q E h => ?_) (fun cdv A outer s H vs Q E hr h => ?_)
  · obtain ⟨p, pc, m, t, rfl, _⟩ := h
    rfl
  · obtain ⟨p, pc, m, t, rfl, m0, m1, ht, hP, k⟩ := h
    refine ⟨_, PSs.nox (pss_one (ps_ret (pe_op op_sub (pe_dn dDraw hr (pa_cons (pv 0) (pa_cons (pe_op op_add (pe_op op_mul pe_int (pv 1)) pe_int) pa_nil))) (pv 1)))), ?_⟩
    exact ⟨_, rfl, _, rfl, _, _, rfl, rfl, .inl ⟨by decide, by decide⟩, _, _, rfl, rfl, p, pc, _, t, rfl, by omega, by omega, by omega, hP, fun H1 d d0 d1 hP1 k1 => ⟨_, rfl, _, _, rfl, rfl, k _ _ (by omega) (by omega) hP1 k1⟩⟩
theorem sc_law_name : FnScope ["_law_pen", "_law_found", "_law_k"] ["_law_pen"] (defScope s_law_name) := ⟨rfl, rfl, rfl, by decide +kernel, rfl, by decide +kernel, by decide +kernel⟩
theorem ok_name {f : Addr} {fd : FuncData} (F : FnP K "_law_name" s_law_name f fd) (T : LwTx K mg) (dDraw : Dn P w K mg base 1 "_law_draw" ["_law_pen", "_law_many_here"] spDraw) : FnOk P w K mg base CX0 2 f fd ["_law_pen"] spName := by
  refine F.ok sc_law_name (fun vs H Q E h => ?_) (fun cdv A outer s H vs Q E hr h => ?_)
  · obtain ⟨p, pc, t, rfl, _⟩ := h
    rfl
  · obtain ⟨p, pc, t, rfl, ht, hP, k⟩ := h
    refine ⟨_, PSs.nox (pss_cons (ps_set (i := 1) sc_law_name.nd rfl (Or.inl rfl) (pe_ix ix_str pe_str (pe_dn dDraw hr (pa_cons (pv 0) (pa_cons pe_int pa_nil))) (fun _ _ => rfl)))
      (pss_cons (ps_for PassesOwn.never rfl (pi_range1 (by rfl) T.range (pa_cons (pe_dn dDraw hr (pa_cons (pv 0) (pa_cons pe_int pa_nil))) pa_nil)) (pg_name (i := 2) sc_law_name.nd rfl (.inl rfl)) (pss_one (ps_set (i := 1) sc_law_name.nd rfl (Or.inl rfl) (pe_op op_add_str (pv 1) (pe_ix ix_str pe_str (pe_dn dDraw hr (pa_cons (pv 0) (pa_cons pe_int pa_nil))) (fun _ _ => rfl))))))
      (pss_one (ps_ret (pv 1))))), ?_⟩
    refine ⟨_, rfl, p, pc, 18, t, rfl, by decide, by decide, by omega, hP, fun H1 d d0 d1 hP1 k1 => ?_⟩
    obtain ⟨j, rfl⟩ : ∃ j : Nat, d = (j : Int) := ⟨d.toNat, by omega⟩
    obtain ⟨c0, hc0, hcl, hck⟩ := first_at j (by omega)
    refine ⟨firstL, _, c0, rfl, rfl, by decide +kernel, atI_nat hc0, ?_⟩
    refine normG (σ' := [some (.ref p), some (.str ⟨#[c0]⟩), none]) rfl ?_
    try dsimp only
    refine ⟨_, rfl, p, pc, 8, t + 1, rfl, by decide, by decide, by omega, hP1, fun H2 e e0 e1 hP2 k2 => ?_⟩
    obtain ⟨q, rfl⟩ : ∃ q : Nat, e = (q : Int) := ⟨e.toNat, by omega⟩
    refine ⟨(q : Int), rfl, by omega, by omega, ?_⟩
    rw [Int.toNat_natCast]
    refine for_range (lo := 0) (n := q) (fun i σ H' => ∃ (x : Str) (v : Option V), σ = [some (.ref p), some (.str x), v] ∧ x.cps.toList.length = i + 1 ∧ (∀ c ∈ x.cps.toList, c ∈ lets.cps.toList) ∧ x.cps.toList.head? = some c0 ∧ PenC H' p pc (t + 2 + i) ∧ Keep p H H')
      ⟨_, _, rfl, rfl, (fun c hc => by
        rw [List.mem_singleton.mp hc]
        exact hcl), rfl, hP2, k1.trans k2⟩ ?_ ?_
    · rintro i σ H3 hi ⟨x, v, rfl, xl, xm, xh, hP3, k3⟩
      refine normG (σ' := [some (.ref p), some (.str x), some (.int (0 + (i : Int)))]) rfl ?_
      refine ⟨_, rfl, _, rfl, p, pc, 26, t + 2 + i, rfl, by decide, by decide, by omega, hP3, fun H4 d d0 d1 hP4 k4 => ?_⟩
      obtain ⟨j, rfl⟩ : ∃ j : Nat, d = (j : Int) := ⟨d.toNat, by omega⟩
      obtain ⟨c, hc, hcl⟩ := lets_at j (by omega)
      refine ⟨lets, _, c, rfl, rfl, by decide +kernel, atI_nat hc, ?_⟩
      refine ⟨x, _, rfl, rfl, ?_, ?_⟩
      · have := sz1m 100 (by decide)
        rw [str_len, xl]
        show i + 1 + 1 ≤ sizeLine
        omega
      refine normG (σ' := [some (.ref p), some (.str (x ++ (⟨#[c]⟩ : Str))), some (.int (0 + (i : Int)))]) rfl ?_
      refine ⟨_, _, rfl, ?_, ?_, ?_, hP4, k3.trans k4⟩
      · rw [app_one, List.length_append, xl]
        rfl
      · intro y hy
        rw [app_one] at hy
        rcases List.mem_append.mp hy with z | z
        · exact xm y z
        · rw [List.mem_singleton.mp z]
          exact hcl
      · rw [app_one, List.head?_append, xh]
        rfl
    · rintro σ H3 ⟨x, v, rfl, xl, xm, xh, hP3, k3⟩
      refine ⟨_, rfl, k _ _ ⟨name_of rfl (by omega) (by omega) xm (fun z => hck x z xh), by rw [str_len]; omega⟩ (hP3.mono (by omega)) k3⟩
theorem sc_law_condition_row : FnScope ["_law_pen", "_law_most", "_law_modulus"] ["_law_pen", "_law_most"] (defScope s_law_condition_row) := ⟨rfl, rfl, rfl, by decide +kernel, rfl, by decide +kernel, by decide +kernel⟩
theorem ok_cRow {f : Addr} {fd : FuncData} (F : FnP K "_law_condition_row" s_law_condition_row f fd) (dDraw : Dn P w K mg base 1 "_law_draw" ["_law_pen", "_law_many_here"] spDraw) (dSigned : Dn P w K mg base 2 "_law_signed" ["_law_pen", "_law_most"] spSigned) : FnOk P w K mg base CX0 3 f fd ["_law_pen", "_law_most"] spCRow := by
  refine F.ok sc_law_condition_row (fun vs H Q E h => ?_) (fun cdv A outer s H vs Q E hr h => ?_)
  · obtain ⟨p, pc, m, t, rfl, _⟩ := h
    rfl
  · obtain ⟨p, pc, m, t, rfl, m0, m1, ht, hP, k⟩ := h
    refine ⟨_, PSs.nox (pss_cons (ps_if (pt_cmpR op_eq (pe_dn dDraw hr (pa_cons (pv 0) (pa_cons pe_int pa_nil))) pe_int (nomark _)) (pss_one (ps_ret (pe_tup (pa_cons pe_str (pa_cons (pe_dn dSigned hr (pa_cons (pv 0) (pa_cons pe_int pa_nil))) (pa_cons (pe_dn dSigned hr (pa_cons (pv 0) (pa_cons pe_int pa_nil))) (pa_cons (pe_dn dSigned hr (pa_cons (pv 0) (pa_cons (pv 1) pa_nil))) pa_nil))))))) pss_nil)
      (pss_cons (ps_set (i := 2) sc_law_condition_row.nd rfl (Or.inl rfl) (pe_op op_add pe_int (pe_dn dDraw hr (pa_cons (pv 0) (pa_cons pe_int pa_nil)))))
      (pss_one (ps_ret (pe_tup (pa_cons pe_str (pa_cons (pe_dn dSigned hr (pa_cons (pv 0) (pa_cons pe_int pa_nil))) (pa_cons (pe_dn dSigned hr (pa_cons (pv 0) (pa_cons pe_int pa_nil))) (pa_cons (pe_dn dSigned hr (pa_cons (pv 0) (pa_cons (pv 1) pa_nil))) (pa_cons (pv 2) (pa_cons (pe_dn dDraw hr (pa_cons (pv 0) (pa_cons (pv 2) pa_nil))) pa_nil))))))))))), ?_⟩
    refine ⟨_, rfl, p, pc, 2, t, rfl, by decide, by decide, by omega, hP, fun H1 d d0 d1 hP1 k1 => ⟨rfl, _, rfl, ite2 (fun _ => ?_) (fun _ => ?_)⟩⟩
    · refine ⟨_, rfl, p, pc, 3, t + 1, rfl, by decide, by decide, by omega, hP1, fun H2 a a0 a1 hP2 k2 => ?_⟩
      refine ⟨_, rfl, p, pc, 2, t + 2, rfl, by decide, by decide, by omega, hP2, fun H3 b b0 b1 hP3 k3 => ?_⟩
      refine ⟨_, rfl, _, rfl, p, pc, m, t + 3, rfl, by omega, by omega, by omega, hP3, fun H4 c c0 c1 hP4 k4 => ?_⟩
      refine ⟨sz4, fun u hu => ?_⟩
      have s5 := Same.new (.tup [.str "least", .int a, .int b, .int c]) (Same.refl H4) hu
      exact k _ _ (.lea a b c) ⟨by omega, by omega, by omega, by omega, by omega, by omega⟩ (.tup upd_same (.cons (.str _) (.cons (.int _) (.cons (.int _) (.cons (.int _) .nil))))) ((hP4.same s5).mono (by omega)) ((((k1.trans k2).trans k3).trans k4).trans (Keep.of s5))
    · refine ⟨_, rfl, p, pc, 3, t + 1, rfl, by decide, by decide, by omega, hP1, fun H2 m' a0 a1 hP2 k2 => ?_⟩
      refine ⟨_, _, rfl, rfl, ?_⟩
      refine normG (σ' := [some (.ref p), some (.int m), some (.int (2 + m'))]) rfl ?_
      refine ⟨_, rfl, p, pc, 3, t + 2, rfl, by decide, by decide, by omega, hP2, fun H3 a a0 a1 hP3 k3 => ?_⟩
      refine ⟨_, rfl, p, pc, 3, t + 3, rfl, by decide, by decide, by omega, hP3, fun H4 b b0 b1 hP4 k4 => ?_⟩
      refine ⟨_, rfl, _, rfl, p, pc, m, t + 4, rfl, by omega, by omega, by omega, hP4, fun H5 c c0 c1 hP5 k5 => ?_⟩
      refine ⟨_, rfl, _, rfl, _, rfl, p, pc, _, t + 5, rfl, by omega, by omega, by omega, hP5, fun H6 r r0 r1 hP6 k6 => ?_⟩
      refine ⟨sz6, fun u hu => ?_⟩
      have s7 := Same.new (.tup [.str "rest", .int a, .int b, .int c, .int (2 + m'), .int r]) (Same.refl H6) hu
      exact k _ _ (.rst a b c (2 + m') r) ⟨⟨by omega, by omega, by omega, by omega, by omega, by omega⟩, by omega, by omega, by omega, by omega⟩ (.tup upd_same (.cons (.str _) (.cons (.int _) (.cons (.int _) (.cons (.int _) (.cons (.int _) (.cons (.int _) .nil))))))) ((hP6.same s7).mono (by omega)) ((((((k1.trans k2).trans k3).trans k4).trans k5).trans k6).trans (Keep.of s7))
end
theorem if_w2 {b : Bool} {A : Prop} {j : Int} {σ : L2.St} {H : Hp} {Q : VK} (W : Int → Hp → Prop) (h1 : b = true → (∀ v H', W v H' → Q (.int v) H') → A) (h2 : b = false → W j H) (h3 : ∀ v H', W v H' → Q (.int v) H') : if b = true then A else tC (.int j) σ H Q := by
  cases b
  · exact h3 _ _ (h2 rfl)
  · exact h1 rfl h3
def spSRow : Sp := fun vs H Q _ => ∃ (p pc : Addr) (m q : Int) (t : Nat), vs = [.ref p, .int m, .int q] ∧ 0 ≤ m ∧ m ≤ 600 ∧ 0 ≤ q ∧ q ≤ 3 ∧ t < 970000000 ∧ PenC H p pc t ∧ ∀ H' (v : V) (s : StM), StOk s → DL (Nw H) H' v (stR s) → PenC H' p pc (t + 40) → Keep p H H' → Q v H'
def spLRow : Sp := fun vs H Q _ => ∃ (p pc : Addr) (m b q : Int) (t : Nat), vs = [.ref p, .int m, .int b, .int q] ∧ 0 ≤ m ∧ m ≤ 600 ∧ 1 ≤ b ∧ b ≤ 3 ∧ 0 ≤ q ∧ q ≤ 3 ∧ t < 960000000 ∧ PenC H p pc t ∧ ∀ H' (v : V) (l : LpM), LpOk l → 1 ≤ l.sts.length → DL (Nw H) H' v (lpR l) → PenC H' p pc (t + 200) → Keep p H H' → Q v H'
theorem dl_i3 {P : Addr → Prop} {H : Hp} {t : Addr} {a b c : Int} (h : H t = some (.tup [.int a, .int b, .int c])) : DL P H (.ref t) (i3 a b c) := .tup h (.cons (.int _) (.cons (.int _) (.cons (.int _) .nil)))
section
variable {P : Program} {w : World} {K : PySem.W.Frag} {mg : Str → Option Value} {base : Heap}
theorem sc_law_statement_row : FnScope ["_law_pen", "_law_most", "_law_tests", "_law_name_here", "_law_found", "_law_cell", "_law_k"] ["_law_pen", "_law_most", "_law_tests"] (defScope s_law_statement_row) := ⟨rfl, rfl, rfl, by decide +kernel, rfl, by decide +kernel, by decide +kernel⟩
theorem ok_sRow {f : Addr} {fd : FuncData} (F : FnP K "_law_statement_row" s_law_statement_row f fd) (T : LwTx K mg) (dDraw : Dn P w K mg base 1 "_law_draw" ["_law_pen", "_law_many_here"] spDraw) (dSigned : Dn P w K mg base 2 "_law_signed" ["_law_pen", "_law_most"] spSigned) (dName : Dn P w K mg base 2 "_law_name" ["_law_pen"] spName)
    (dCRow : Dn P w K mg base 3 "_law_condition_row" ["_law_pen", "_law_most"] spCRow) : FnOk P w K mg base CX0 4 f fd ["_law_pen", "_law_most", "_law_tests"] spSRow := by
  refine F.ok sc_law_statement_row (fun vs H Q E h => ?_) (fun cdv A outer s H vs Q E hr h => ?_)
  · obtain ⟨p, pc, m, q, t, rfl, _⟩ := h
    rfl
  · obtain ⟨p, pc, m, q, t, rfl, m0, m1, q0, q1, ht, hP, k⟩ := h
    refine ⟨_, PSs.nox (pss_cons (ps_par (i := 3) (j := 4) (by rfl) sc_law_statement_row.nd rfl rfl (by decide) rfl rfl (pa_cons (pe_dn dName hr (pa_cons (pv 0) pa_nil)) (pa_cons (pe_lst pa_nil) pa_nil)) (by rfl))
      (pss_cons (ps_set (i := 5) sc_law_statement_row.nd rfl (Or.inl rfl) (pe_tup (pa_cons (pe_dn dSigned hr (pa_cons (pv 0) (pa_cons pe_int pa_nil))) (pa_cons (pe_dn dSigned hr (pa_cons (pv 0) (pa_cons pe_int pa_nil))) (pa_cons (pe_dn dSigned hr (pa_cons (pv 0) (pa_cons (pv 1) pa_nil))) pa_nil)))))
      (pss_cons (ps_if (pt_cmpR op_eq (pe_dn dDraw hr (pa_cons (pv 0) (pa_cons pe_int pa_nil))) pe_int (nomark _)) (pss_one (ps_set (i := 4) sc_law_statement_row.nd rfl (Or.inl rfl) (pe_lst (pa_cons (pe_tup (pa_cons (pv 3) (pa_cons (pe_dn dSigned hr (pa_cons (pv 0) (pa_cons pe_int pa_nil))) (pa_cons (pe_dn dSigned hr (pa_cons (pv 0) (pa_cons pe_int pa_nil))) (pa_cons (pe_dn dSigned hr (pa_cons (pv 0) (pa_cons (pv 1) pa_nil))) (pa_cons (pe_op op_add pe_int (pe_dn dDraw hr (pa_cons (pv 0) (pa_cons pe_int pa_nil)))) pa_nil)))))) pa_nil)))) pss_nil)
      (pss_one (ps_ret (pe_tup (pa_cons (pv 3) (pa_cons (pv 5) (pa_cons (pv 4) (pa_cons (pe_lc (own := [("_law_k", 6)]) (g := gName 6) (tt := tYes) rfl sc_law_statement_row.nd (pi_range1 (by rfl) T.range (pa_cons (pe_dn dDraw hr (pa_cons (pv 0) (pa_cons (pe_op op_add (pv 2) pe_int) pa_nil))) pa_nil)) (blkOk_by (N := ["_law_pen", "_law_most", "_law_tests", "_law_name_here", "_law_found", "_law_cell", "_law_k"]) (sc := defScope s_law_statement_row) (by decide +kernel)) (fun _ _ _ _ _ => (pg_name (i := 6) sc_law_statement_row.nd rfl (.inl rfl))) (fun _ _ _ _ _ => pts_nil) (fun _ _ _ _ _ => (pe_dn dCRow hr (pa_cons (pv 0) (pa_cons (pv 1) pa_nil))))) pa_nil)))))))))), ?_⟩
    refine ⟨_, rfl, p, pc, t, rfl, by omega, hP, fun H1 x nx hP1 k1 => ?_⟩
    refine ⟨(by decide), fun F0 hF0 => ⟨_, _, rfl, ?_⟩⟩
    try dsimp only
    have sF := Same.new (.lst []) (Same.refl H1) hF0
    refine norm (N := fun σ _ => _) (σ' := [some (.ref p), some (.int m), some (.int q), some (.str x), some (.ref F0), none, none]) rfl ?_
    try dsimp only
    have hP2 := hP1.same sF
    have hF2 : (upd H1 F0 (.lst [])) F0 = some (.lst []) := upd_same
    refine ⟨_, rfl, p, pc, 3, t + 9, rfl, by decide, by decide, by omega, hP2, fun H3 a a0 a1 hP3 k3 => ?_⟩
    refine ⟨_, rfl, p, pc, 2, t + 10, rfl, by decide, by decide, by omega, hP3, fun H4 b b0 b1 hP4 k4 => ?_⟩
    refine ⟨_, rfl, _, rfl, p, pc, m, t + 11, rfl, by omega, by omega, by omega, hP4, fun H5 c c0 c1 hP5 k5 => ⟨sz3, fun u hu => ?_⟩⟩
    have s6 := Same.new (.tup [.int a, .int b, .int c]) (Same.refl H5) hu
    have hu6 : (upd H5 u (.tup [.int a, .int b, .int c])) u = some (.tup [.int a, .int b, .int c]) := upd_same
    refine normG (σ' := [some (.ref p), some (.int m), some (.int q), some (.str x), some (.ref F0), some (.ref u), none]) rfl ?_
    try dsimp only
    obtain ⟨H6, eH6⟩ : ∃ X, X = upd H5 u (.tup [.int a, .int b, .int c]) := ⟨_, rfl⟩
    rw [← eH6] at s6 hu6 ⊢
    have hP6 := hP5.same s6
    have kF : Keep p (upd H1 F0 (.lst [])) H6 := ((k3.trans k4).trans k5).trans (Keep.of s6)
    have kk : Keep p H H6 := (k1.trans (Keep.of sF)).trans kF
    have hF6 := kF _ _ (hP2.ne hF2 fun _ z => by cases z) hF2
    have nF : H F0 = none := (Gr.keep k1 hP1).new hF0
    have du : DL Nn H6 (.ref u) (i3 a b c) := dl_i3 hu6
    refine mid (fun σ' H' => ∃ (F : Addr) (xs : List V) (rds : List RdM), σ' = [some (.ref p), some (.int m), some (.int q), some (.str x), some (.ref F), some (.ref u), none] ∧ H F = none ∧ H' F = some (.lst xs) ∧ DLs Nn H' xs (rds.map rdR) ∧ rds.length ≤ 1 ∧ (∀ r ∈ rds, RdOk r) ∧ PenC H' p pc (t + 20) ∧ Keep p H H' ∧ DL Nn H' (.ref u) (i3 a b c)) (fun key => ?_) ?_
    · refine ⟨_, rfl, p, pc, 2, t + 12, rfl, by decide, by decide, by omega, hP6, fun H7 d d0 d1 hP7 k7 => ⟨rfl, _, rfl, ite2 (fun _ => ?_) (fun _ => ?_)⟩⟩
      · refine ⟨_, rfl, ?_⟩
        refine ⟨_, rfl, p, pc, 3, t + 13, rfl, by decide, by decide, by omega, hP7, fun H8 a' a0' a1' hP8 k8 => ?_⟩
        refine ⟨_, rfl, p, pc, 2, t + 14, rfl, by decide, by decide, by omega, hP8, fun H9 b' b0' b1' hP9 k9 => ?_⟩
        refine ⟨_, rfl, _, rfl, p, pc, m, t + 15, rfl, by omega, by omega, by omega, hP9, fun Ha c' c0' c1' hPa ka => ?_⟩
        refine ⟨_, rfl, p, pc, 3, t + 16, rfl, by decide, by decide, by omega, hPa, fun Hb d' d0' d1' hPb kb => ⟨_, _, rfl, rfl, sz5, fun u2 hu2 => ⟨sz1, fun F hF => ?_⟩⟩⟩
        have sb := Same.new (.tup [.str x, .int a', .int b', .int c', .int (1 + d')]) (Same.refl Hb) hu2
        have sc := Same.new (.lst [.ref u2]) (Same.refl (upd Hb u2 (.tup [.str x, .int a', .int b', .int c', .int (1 + d')]))) hF
        have kz := (((k7.trans k8).trans k9).trans ka).trans kb
        have kzz := kk.trans kz
        have du2 := (du.to (LS.pen hP6 kz)).to (.of (sb.trans sc))
        refine key _ _ ⟨F, [.ref u2], [⟨x, a', b', c', 1 + d', 1⟩], rfl, ?_, upd_same, ?_, Nat.le_refl _, ?_, ((hPb.same sb).same sc).mono (by omega), (kzz.trans (Keep.of sb)).trans (Keep.of sc), du2⟩
        · exact (Gr.keep kzz hPb).new ((Gr.of sb).new hF)
        · exact .cons (.tup (sc _ _ upd_same) (.cons (.str _) (.cons (.int _) (.cons (.int _) (.cons (.int _) (.cons (.int _) .nil)))))) .nil
        · intro r hr
          rw [List.mem_singleton.mp hr]
          exact ⟨nx, ⟨by show -3 ≤ a'; omega, by show a' ≤ 3; omega, by show -3 ≤ b'; omega, by show b' ≤ 3; omega, by show -600 ≤ c'; omega, by show c' ≤ 600; omega⟩, by show 1 ≤ 1 + d'; omega, by show 1 + d' ≤ 3; omega, rfl⟩
      · exact key _ _ ⟨F0, [], [], rfl, nF, k7 _ _ (hP6.ne hF6 fun _ z => by cases z) hF6, .nil, Nat.zero_le _, (fun _ z => by cases z), hP7.mono (by omega), kk.trans k7, du.to (LS.pen hP6 k7)⟩
    rintro σ H7 ⟨F, xs, rds, rfl, nF', hF7, dx, l1, okr, hP7, k7, du7⟩
    refine ⟨_, rfl, _, rfl, _, rfl, ?_⟩
    refine ⟨_, rfl, _, rfl, _, _, rfl, rfl, p, pc, _, t + 20, rfl, by omega, by omega, by omega, hP7, fun H8 e e0 e1 hP8 k8 => ?_⟩
    obtain ⟨n, rfl⟩ : ∃ n : Nat, e = (n : Int) := ⟨e.toNat, by omega⟩
    refine ⟨(n : Int), rfl, by omega, by omega, ?_⟩
    rw [Int.toNat_natCast]
    intro D hD
    have sD := Same.new (.lst []) (Same.refl H8) hD
    have k78 := k7.trans k8
    have g8 := Gr.keep k78 hP8
    have nD : H D = none := g8.new hD
    have hF8 := k8 _ _ (hP7.ne hF7 fun _ z => by cases z) hF7
    have nFD : F ≠ D := ne_of_none hF8 hD
    refine lc_range (lo := 0) (n := n) (fun i Hc => ∃ (ys : List V) (gds : List Gd), Hc D = some (.lst ys) ∧ DLs (fun b => H b = none ∧ b ≠ D) Hc ys (gds.map gdR) ∧ gds.length = i ∧ (∀ g ∈ gds, GdOk g) ∧ PenC Hc p pc (t + 21 + 6 * i) ∧ Keep p H Hc ∧ Hc F = some (.lst xs) ∧ DLs Nn Hc xs (rds.map rdR) ∧ DL Nn Hc (.ref u) (i3 a b c))
      ⟨[], [], upd_same, .nil, rfl, (fun _ z => by cases z), hP8.same sD, k78.trans (Keep.of sD), sD _ _ hF8, (dx.to (LS.pen hP7 k8)).to (.of sD), (du7.to (LS.pen hP7 k8)).to (.of sD)⟩ ?_ ?_
    · rintro i Hc hi ⟨ys, gds, eD, dy, lg, okg, hPc, kc, hFc, dxc, duc⟩
      have gc := Gr.keep kc hPc
      refine ⟨rfl, yes_of ?_⟩
      refine ⟨_, rfl, _, rfl, p, pc, m, t + 21 + 6 * i, rfl, by omega, by omega, by omega, hPc, fun H9 v g okgg dg hP9 k9 => ?_⟩
      have eD9 := k9 _ _ (hPc.ne eD fun _ z => by cases z) eD
      have lys : ys.length = i := by rw [dy.len, List.length_map, lg]
      have dg' : DL (fun b => H b = none ∧ b ≠ D) H9 v (gdR g) := dg.imp fun b hb => ⟨gc.new hb, fun z => by
        have hb : Hc b = none := hb
        rw [z, eD] at hb
        cases hb⟩
      refine ⟨ys, eD9, sz1m _ (by omega), ys ++ [v], gds ++ [g], upd_same, ?_, ?_, ?_, ?_, ?_, ?_, ?_, ?_⟩
      · exact DLs.snoc ((dy.to (LS.pen hPc k9)).to (.updL eD9 fun z => z.2 rfl)) (dg'.to (.updL eD9 fun z => z.2 rfl))
      · rw [List.length_append, lg]
        rfl
      · intro g' hg'
        rcases List.mem_append.mp hg' with z | z
        · exact okg _ z
        · rw [List.mem_singleton.mp z]
          exact okgg
      · exact hP9.upd (hP8.free hD).1 (hP8.free hD).2 (by omega)
      · intro b' o nb e
        rw [upd_ne (ne_of_none (k78 _ _ nb e) hD)]
        exact k9 _ _ nb (kc _ _ nb e)
      · rw [upd_ne nFD]
        exact k9 _ _ (hPc.ne hFc fun _ z => by cases z) hFc
      · exact (dxc.to (LS.pen hPc k9)).to (.updL eD9 fun z => z)
      · exact (duc.to (LS.pen hPc k9)).to (.updL eD9 fun z => z)
    · rintro Hc ⟨ys, gds, eD, dy, lg, okg, hPc, kc, hFc, dxc, duc⟩
      have lys : ys.length = n := by rw [dy.len, List.length_map, lg]
      refine ⟨sz4, fun v hv => ?_⟩
      have sv := Same.new (.tup [.str x, .ref u, .ref F, .ref D]) (Same.refl Hc) hv
      refine k _ _ ⟨x, a, b, c, 1, rds, gds⟩ ⟨nx, ⟨by show -3 ≤ a; omega, by show a ≤ 3; omega, by show -3 ≤ b; omega, by show b ≤ 3; omega, by show -600 ≤ c; omega, by show c ≤ 600; omega⟩, Int.le_refl _, Int.le_refl _, l1, by show gds.length ≤ 3; omega, okr, okg⟩ ?_ ((hPc.same sv).mono (by omega)) (kc.trans (Keep.of sv))
      exact .tup upd_same (.cons (.str _) (.cons ((duc.same sv).imp fun _ z => z.elim) (.cons (.lst nF' (sv _ _ hFc) ((dxc.same sv).imp fun _ z => z.elim)) (.cons (.lst nD (sv _ _ eD) ((dy.same sv).imp fun _ z => z.1)) .nil))))
theorem sc_law_loop_row : FnScope ["_law_pen", "_law_most", "_law_statements", "_law_tests", "_law_kind", "_law_by", "_law_low", "_law_high", "_law_back", "_law_found", "_law_k"] ["_law_pen", "_law_most", "_law_statements", "_law_tests"] (defScope s_law_loop_row) := ⟨rfl, rfl, rfl, by decide +kernel, rfl, by decide +kernel, by decide +kernel⟩
theorem ok_lRow {f : Addr} {fd : FuncData} (F : FnP K "_law_loop_row" s_law_loop_row f fd) (T : LwTx K mg) (dDraw : Dn P w K mg base 1 "_law_draw" ["_law_pen", "_law_many_here"] spDraw) (dSigned : Dn P w K mg base 2 "_law_signed" ["_law_pen", "_law_most"] spSigned)
    (dSRow : Dn P w K mg base 4 "_law_statement_row" ["_law_pen", "_law_most", "_law_tests"] spSRow) : FnOk P w K mg base CX0 5 f fd ["_law_pen", "_law_most", "_law_statements", "_law_tests"] spLRow := by
  refine F.ok sc_law_loop_row (fun vs H Q E h => ?_) (fun cdv A outer s H vs Q E hr h => ?_)
  · obtain ⟨p, pc, m, b, q, t, rfl, _⟩ := h
    rfl
  · obtain ⟨p, pc, m, b, q, t, rfl, m0, m1, b0, b1, q0, q1, ht, hP, k⟩ := h
    refine ⟨_, PSs.nox (pss_cons (ps_set (i := 4) sc_law_loop_row.nd rfl (Or.inl rfl) (pe_dn dDraw hr (pa_cons (pv 0) (pa_cons pe_int pa_nil))))
      (pss_cons (ps_set (i := 5) sc_law_loop_row.nd rfl (Or.inl rfl) (pe_ifExp (pt_cmpR op_lt (pv 4) pe_int (nomark _)) pe_int (pe_op op_sub (pv 4) pe_int)))
      (pss_cons (ps_if (pt_cmpR op_eq (pv 4) pe_int (nomark _)) (pss_one (ps_set (i := 5) sc_law_loop_row.nd rfl (Or.inl rfl) (pe_op op_add pe_int (pe_dn dDraw hr (pa_cons (pv 0) (pa_cons pe_int pa_nil)))))) pss_nil)
      (pss_cons (ps_set (i := 6) sc_law_loop_row.nd rfl (Or.inl rfl) (pe_tup (pa_cons (pe_dn dDraw hr (pa_cons (pv 0) (pa_cons pe_int pa_nil))) (pa_cons (pe_dn dSigned hr (pa_cons (pv 0) (pa_cons (pv 1) pa_nil))) (pa_cons (pe_ifExp (pt_cmpR op_eq (pv 5) pe_int (nomark _)) (pe_op op_add pe_int (pe_dn dDraw hr (pa_cons (pv 0) (pa_cons pe_int pa_nil)))) pe_int) pa_nil)))))
      (pss_cons (ps_set (i := 7) sc_law_loop_row.nd rfl (Or.inl rfl) (pe_tup (pa_cons (pe_dn dDraw hr (pa_cons (pv 0) (pa_cons pe_int pa_nil))) (pa_cons (pe_op op_add (pe_dn dSigned hr (pa_cons (pv 0) (pa_cons (pv 1) pa_nil))) (pe_op op_fdivN (pv 1) pe_int)) (pa_cons (pe_op op_add pe_int (pe_dn dDraw hr (pa_cons (pv 0) (pa_cons pe_int pa_nil)))) pa_nil)))))
      (pss_cons (ps_par (i := 8) (j := 9) (by rfl) sc_law_loop_row.nd rfl rfl (by decide) rfl rfl (pa_cons (pe_cmpR op_eq (pe_dn dDraw hr (pa_cons (pv 0) (pa_cons pe_int pa_nil))) pe_int (nomark _)) (pa_cons (pe_lst pa_nil) pa_nil)) (by rfl))
      (pss_cons (ps_for PassesOwn.never rfl (pi_range1 (by rfl) T.range (pa_cons (pe_op op_add pe_int (pe_dn dDraw hr (pa_cons (pv 0) (pa_cons (pv 2) pa_nil)))) pa_nil)) (pg_name (i := 10) sc_law_loop_row.nd rfl (.inl rfl)) (pss_one (ps_expr (pe_bm PySem.F.plainAttrs_list PySem.F.slot_list_append PySem.F.type_list_append mt_append (pv 9) (pa_cons (pe_dn dSRow hr (pa_cons (pv 0) (pa_cons (pv 1) (pa_cons (pv 3) pa_nil)))) pa_nil)))))
      (pss_one (ps_ret (pe_tup (pa_cons (pv 6) (pa_cons (pv 7) (pa_cons (pv 5) (pa_cons (pv 8) (pa_cons (pv 9) pa_nil))))))))))))))), ?_⟩
    refine ⟨_, rfl, p, pc, 7, t, rfl, by decide, by decide, by omega, hP, fun H1 kd kd0 kd1 hP1 k1 => ?_⟩
    refine normG (σ' := [some (.ref p), some (.int m), some (.int b), some (.int q), some (.int kd), none, none, none, none, none, none]) rfl ?_
    try dsimp only
    refine mid (fun σ' H' => ∃ b1 : Int, σ' = [some (.ref p), some (.int m), some (.int b), some (.int q), some (.int kd), some (.int b1), none, none, none, none, none] ∧ 1 ≤ b1 ∧ b1 ≤ 16 ∧ H' = H1) (fun key => ?_) ?_
    · refine ⟨_, rfl, _, _, rfl, rfl, _, rfl, ite2 (fun z => ?_) (fun z => ?_)⟩
      · exact key _ _ ⟨1, rfl, by decide, by decide, rfl⟩
      · have z : ¬ kd < 4 := fun y => z (decide_eq_true y)
        exact ⟨_, rfl, _, _, rfl, rfl, key _ _ ⟨kd - 2, rfl, by omega, by omega, rfl⟩⟩
    rintro σ H2 ⟨b1', rfl, hb0, hb1, rfl⟩
    refine mid (fun σ' H' => ∃ b2 : Int, σ' = [some (.ref p), some (.int m), some (.int b), some (.int q), some (.int kd), some (.int b2), none, none, none, none, none] ∧ 1 ≤ b2 ∧ b2 ≤ 16 ∧ PenC H' p pc (t + 2) ∧ Keep p H H') (fun key => ?_) ?_
    · refine ⟨_, rfl, rfl, _, rfl, ite2 (fun z => ?_) (fun z => ?_)⟩
      · refine ⟨_, rfl, p, pc, 15, t + 1, rfl, by decide, by decide, by omega, hP1, fun H3 d d0 d1 hP3 k3 => ⟨_, _, rfl, rfl, ?_⟩⟩
        exact key _ _ ⟨2 + d, rfl, by omega, by omega, hP3, k1.trans k3⟩
      · exact key _ _ ⟨b1', rfl, hb0, hb1, hP1.mono (by omega), k1⟩
    rintro σ H3 ⟨S, rfl, hS0, hS1, hP3, k3⟩
    refine ⟨_, rfl, p, pc, 3, t + 2, rfl, by decide, by decide, by omega, hP3, fun H4 l0 l00 l01 hP4 k4 => ?_⟩
    refine ⟨_, rfl, _, rfl, p, pc, m, t + 3, rfl, by omega, by omega, by omega, hP4, fun H5 l1 l10 l11 hP5 k5 => ?_⟩
    refine ⟨_, rfl, rfl, _, rfl, if_w2 (fun v H' => 1 ≤ v ∧ v ≤ 3 ∧ (1 < S → v = 1) ∧ PenC H' p pc (t + 5) ∧ Keep p H5 H') (fun hS key => ?_) (fun z => ?_) ?_⟩
    · refine ⟨_, rfl, p, pc, 3, t + 4, rfl, by decide, by decide, by omega, hP5, fun H6 d d0 d1 hP6 k6 => ⟨_, _, rfl, rfl, ?_⟩⟩
      have hS : S = 1 := V.int.inj (of_decide_eq_true hS)
      exact key _ _ ⟨by omega, by omega, fun z => by omega, hP6, k6⟩
    · exact ⟨Int.le_refl _, by decide, fun _ => rfl, hP5.mono (by omega), Keep.refl _ _⟩
    rintro l2 H6 ⟨l20, l21, l22, hP6, k6⟩
    refine ⟨sz3, fun lo hlo => ?_⟩
    refine normG (σ' := [some (.ref p), some (.int m), some (.int b), some (.int q), some (.int kd), some (.int S), some (.ref lo), none, none, none, none]) rfl ?_
    try dsimp only
    have s7 := Same.new (.tup [.int l0, .int l1, .int l2]) (Same.refl H6) hlo
    have dlo : DL Nn (upd H6 lo (.tup [.int l0, .int l1, .int l2])) (.ref lo) (i3 l0 l1 l2) := dl_i3 upd_same
    have hP7 := hP6.same s7
    have k7 := (((k3.trans k4).trans k5).trans k6).trans (Keep.of s7)
    refine ⟨_, rfl, p, pc, 4, t + 5, rfl, by decide, by decide, by omega, hP7, fun H8 h0 h00 h01 hP8 k8 => ?_⟩
    refine ⟨_, rfl, _, rfl, p, pc, m, t + 6, rfl, by omega, by omega, by omega, hP8, fun H9 h1 h10 h11 hP9 k9 => ?_⟩
    refine ⟨_, rfl, _, _, rfl, rfl, ⟨by decide, by decide⟩, _, _, rfl, rfl, ?_⟩
    have m2 : 0 ≤ m.fdiv 2 ∧ m.fdiv 2 ≤ 300 := by
      rw [Int.fdiv_eq_ediv_of_nonneg _ (by decide)]
      omega
    refine ⟨_, rfl, p, pc, 3, t + 7, rfl, by decide, by decide, by omega, hP9, fun Ha h2 h20 h21 hPa ka => ⟨_, _, rfl, rfl, sz3, fun hi hhi => ?_⟩⟩
    refine normG (σ' := [some (.ref p), some (.int m), some (.int b), some (.int q), some (.int kd), some (.int S), some (.ref lo), some (.ref hi), none, none, none]) rfl ?_
    try dsimp only
    have sb := Same.new (.tup [.int h0, .int (h1 + m.fdiv 2), .int (1 + h2)]) (Same.refl Ha) hhi
    have dhi : DL Nn (upd Ha hi (.tup [.int h0, .int (h1 + m.fdiv 2), .int (1 + h2)])) (.ref hi) (i3 h0 (h1 + m.fdiv 2) (1 + h2)) := dl_i3 upd_same
    have hPb := hPa.same sb
    have dlo := (((dlo.to (LS.pen hP7 k8)).to (LS.pen hP8 k9)).to (LS.pen hP9 ka)).to (.of sb)
    have kb := (((k7.trans k8).trans k9).trans ka).trans (Keep.of sb)
    refine ⟨_, rfl, p, pc, 2, t + 8, rfl, by decide, by decide, by omega, hPb, fun Hc d d0 d1 hPc kc => ⟨rfl, sz0, fun F0 hF0 => ⟨_, _, rfl, ?_⟩⟩⟩
    refine norm (N := fun σ _ => _) (σ' := [some (.ref p), some (.int m), some (.int b), some (.int q), some (.int kd), some (.int S), some (.ref lo), some (.ref hi), some (.bl (decide (V.int d = V.int 1))), some (.ref F0), none]) rfl ?_
    try dsimp only
    have sF := Same.new (.lst []) (Same.refl Hc) hF0
    have hF : (upd Hc F0 (.lst [])) F0 = some (.lst []) := upd_same
    have hPd := hPc.same sF
    have kd' := (kb.trans kc).trans (Keep.of sF)
    have nF : H F0 = none := (Gr.keep (kb.trans kc) hPc).new hF0
    have dlo := (dlo.to (LS.pen hPb kc)).to (.of sF)
    have dhi := (dhi.to (LS.pen hPb kc)).to (.of sF)
    have fF := hPc.free hF0
    obtain ⟨Hd, eHd⟩ : ∃ X, X = upd Hc F0 (.lst []) := ⟨_, rfl⟩
    rw [← eHd] at hF hPd kd' dlo dhi ⊢
    refine ⟨_, rfl, _, rfl, p, pc, b, t + 9, rfl, by omega, by omega, by omega, hPd, fun He e e0 e1 hPe ke => ⟨_, _, rfl, rfl, ?_⟩⟩
    obtain ⟨n, hn⟩ : ∃ n : Nat, 1 + e = (n : Int) := ⟨(1 + e).toNat, by omega⟩
    refine ⟨(n : Int), congrArg (fun z => [V.int z]) hn, by omega, by omega, ?_⟩
    rw [Int.toNat_natCast]
    refine for_range (lo := 0) (n := n) (fun i σ H' => ∃ (v : Option V) (xs : List V) (sts : List StM), σ = [some (.ref p), some (.int m), some (.int b), some (.int q), some (.int kd), some (.int S), some (.ref lo), some (.ref hi), some (.bl (decide (V.int d = V.int 1))), some (.ref F0), v] ∧ H' F0 = some (.lst xs) ∧ DLs (fun b => H b = none ∧ b ≠ F0) H' xs (sts.map stR) ∧ sts.length = i ∧ (∀ s ∈ sts, StOk s) ∧ PenC H' p pc (t + 10 + 40 * i) ∧ Keep p H H' ∧ DL Nn H' (.ref lo) (i3 l0 l1 l2) ∧ DL Nn H' (.ref hi) (i3 h0 (h1 + m.fdiv 2) (1 + h2)))
      ⟨_, [], [], rfl, ke _ _ (hPd.ne hF fun _ z => by cases z) hF, .nil, rfl, (fun _ z => by cases z), hPe, kd'.trans ke, dlo.to (LS.pen hPd ke), dhi.to (LS.pen hPd ke)⟩ ?_ ?_
    · rintro i σ Hx hi' ⟨v, xs, sts, rfl, eF, dx, ls, oks, hPx, kx, dlo, dhi⟩
      refine normG (σ' := [some (.ref p), some (.int m), some (.int b), some (.int q), some (.int kd), some (.int S), some (.ref lo), some (.ref hi), some (.bl (decide (V.int d = V.int 1))), some (.ref F0), some (.int (0 + (i : Int)))]) rfl ?_
      have gx := Gr.keep kx hPx
      have lxs : xs.length = i := by rw [dx.len, List.length_map, ls]
      refine ⟨_, rfl, .inl ⟨rfl, _, SqL.of eF⟩, _, rfl, _, rfl, _, rfl, p, pc, m, q, t + 10 + 40 * i, rfl, by omega, by omega, by omega, by omega, by omega, hPx, fun Hy v s oks' ds hPy ky => ?_⟩
      have eFy := ky _ _ (hPx.ne eF fun _ z => by cases z) eF
      have ds' : DL (fun b => H b = none ∧ b ≠ F0) Hy v (stR s) := ds.imp fun b hb => ⟨gx.new hb, fun z => by
        have hb : Hx b = none := hb
        rw [z, eF] at hb
        cases hb⟩
      refine ⟨F0, _, _, rfl, rfl, eFy, sz1m _ (by omega), _, xs ++ [v], sts ++ [s], rfl, upd_same, ?_, ?_, ?_, ?_, ?_, ?_, ?_⟩
      · exact DLs.snoc ((dx.to (LS.pen hPx ky)).to (.updL eFy fun z => z.2 rfl)) (ds'.to (.updL eFy fun z => z.2 rfl))
      · rw [List.length_append, ls]
        rfl
      · intro s' hs'
        rcases List.mem_append.mp hs' with z | z
        · exact oks _ z
        · rw [List.mem_singleton.mp z]
          exact oks'
      · exact hPy.upd fF.1 fF.2 (by omega)
      · intro b' o nb e
        rw [upd_ne (fun z => by
          rw [z, nF] at e
          cases e)]
        exact ky _ _ nb (kx _ _ nb e)
      · exact (dlo.to (LS.pen hPx ky)).to (.updL eFy fun z => z)
      · exact (dhi.to (LS.pen hPx ky)).to (.updL eFy fun z => z)
    · rintro σ Hx ⟨v, xs, sts, rfl, eF, dx, ls, oks, hPx, kx, dlo, dhi⟩
      refine ⟨_, rfl, _, rfl, _, rfl, _, rfl, _, rfl, sz5, fun u hu => ?_⟩
      have su := Same.new (.tup [.ref lo, .ref hi, .int S, .bl (decide (V.int d = V.int 1)), .ref F0]) (Same.refl Hx) hu
      refine k _ _ ⟨l0, l1, l2, h0, h1 + m.fdiv 2, 1 + h2, S, decide (V.int d = V.int 1), sts⟩ ⟨l00, by show l0 ≤ 2; omega, by show -600 ≤ l1; omega, by show l1 ≤ 600; omega, l20, l21, h00, by show h0 ≤ 3; omega, by show -600 ≤ h1 + m.fdiv 2; omega, by show h1 + m.fdiv 2 ≤ 900; omega, by show 1 ≤ 1 + h2; omega, by show 1 + h2 ≤ 3; omega, hS0, hS1, l22, Nat.zero_le _, by show sts.length ≤ 3; omega, oks⟩ (by show 1 ≤ sts.length; omega) ?_ ((hPx.same su).mono (by omega)) (kx.trans (Keep.of su))
      exact .tup upd_same (.cons ((dlo.same su).imp fun _ z => z.elim) (.cons ((dhi.same su).imp fun _ z => z.elim) (.cons (.int _) (.cons (.bl _) (.cons (.lst nF (su _ _ eF) ((dx.same su).imp fun _ z => z.1)) .nil)))))
end
end K35
set_option maxHeartbeats 4000000
namespace K35
open PySem PySem.Spec PyProof.Rows L2 Z
theorem pe_PK {X : Cx} {K : PySem.W.Frag} {e : Expr} {es : List Expr} {t : TA} {p pos : Pos} {k : Nat} {E : L2.St → XK} (hK : X.K = K) (T : PlTx K X.mg) (M : MkP X.prog X.w K X.mg X.base) (hr : Room k X.A) (hx : ∀ σ, PassesAt (L2.CX X.prog X.w) X σ (E σ)) (ha : PA X (e :: es) t) (hk : 5 ≤ k := by decide) (hg : Gl X "Place" := by rfl)
    (he : starEach (e :: es) X.env = (false, eval e X.env) :: starEach es X.env := by rfl) (hpl : (backTo pos (starEach es X.env)).any (·.1) = false := by rfl) :
    PE X (.Call (.Name "Place" p) (e :: es) [] pos) (fun σ H Q => t σ H fun vs H1 => ∃ v d, vs = [v, .int d] ∧ rPlG K v d H1 Q (E σ)) := by
  subst hK
  exact pe_P T M hr hx ha hk hg he hpl
theorem ck_name {x : Str} (h : NmOk x) : ckA x = none := if_pos h.1
theorem ckn_ok {w : Str} {v lo hi : Int} (h1 : lo ≤ v) (h2 : v ≤ hi) : ckN w v lo hi = none := if_pos ⟨h1, h2⟩
theorem cks_ok {a b c : Int} (h1 : -12 ≤ a) (h2 : a ≤ 12) (h3 : -12 ≤ b) (h4 : b ≤ 12) (h5 : -999 ≤ c) (h6 : c ≤ 999) : ckS a b c = none := by
  unfold ckS
  rw [ckn_ok h1 h2, ckn_ok h3 h4, ckn_ok h5 h6]
  rfl
/-- the sums of conditions, all within their bounds -/
theorem cnds_of {K : PySem.W.Frag} {mg : Str → Option Value} (T : LwTx K mg) {H : Hp} {ws : List V} {gs : List Gd} (ok : ∀ g ∈ gs, GdOk g) (f : Fa (GdOb K H) ws gs) : ∃ cc, Cnds K H ws cc ∧ ckCs cc = none := by
  refine ⟨gs.map fun g => match g with | .lea a b c => (a.fdiv (g2 a b), b.fdiv (g2 a b), lf3 a b c) | .rst a b _ m _ => (a.fmod m, b.fmod m, 0), ⟨by rw [f.1, List.length_map], fun i v t h1 h2 => ?_⟩, ?_⟩
  · rw [List.getElem?_map] at h2
    obtain ⟨g, hg, rfl⟩ := Option.map_eq_some_iff.mp h2
    have h := f.2 i v g h1 hg
    cases g with
    | lea a b c =>
      obtain ⟨p, e, dx, q, h3, h4⟩ := h
      exact ⟨p, _, dx, _, q, e, h3, T.clA, T.nAS, af_s _, h4⟩
    | rst a b c m r =>
      obtain ⟨p, e, dx, q, h3, h4⟩ := h
      exact ⟨p, _, dx, _, q, e, h3, T.clQ, T.nRS, rf_s _ _ _, h4⟩
  · clear f
    induction gs with
    | nil => rfl
    | cons g gs ih =>
      have ih := ih fun g' h => ok g' (List.mem_cons_of_mem _ h)
      have ok := ok g (List.mem_cons_self ..)
      rw [List.map_cons]
      show (ckS _ _ _).or (ckCs _) = none
      rw [ih]
      cases g with
      | lea a b c =>
        obtain ⟨h1, h2, h3, h4, h5, h6⟩ := ok
        have q : ckS (a.fdiv (g2 a b)) (b.fdiv (g2 a b)) (lf3 a b c) = none := by
          unfold lf3
          by_cases z : g2 a b = 0
          · obtain ⟨rfl, rfl⟩ := g2_zero z
            rw [if_pos z, Int.zero_fdiv]
            split
            · exact cks_ok (by decide) (by decide) (by decide) (by decide) (by decide) (by decide)
            · exact cks_ok (by decide) (by decide) (by decide) (by decide) (by decide) (by decide)
          · rw [if_neg z]
            have g0 : (0 : Int) < (g2 a b : Int) := by omega
            have ga := fdiv_bd (x := a) (M := 12) g0 (by decide) (by omega) (by omega)
            have gb := fdiv_bd (x := b) (M := 12) g0 (by decide) (by omega) (by omega)
            have gc := fdiv_bd (x := c) (M := 999) g0 (by decide) (by omega) (by omega)
            exact cks_ok ga.1 ga.2 gb.1 gb.2 gc.1 gc.2
        dsimp only
        rw [q]
        rfl
      | rst a b c m r =>
        obtain ⟨h1, h2, h3, _, _⟩ := ok
        have fa := fmod_small (x := a) h2 h3
        have fb := fmod_small (x := b) h2 h3
        dsimp only
        rw [cks_ok (by omega) (by omega) (by omega) (by omega) (by decide) (by decide)]
        rfl
def lf4 (a c d : Int) : P4 := ((0 : Int).fdiv (gg 0 a d), a.fdiv (gg 0 a d), c.fdiv (gg 0 a d), d.fdiv (gg 0 a d))
/-- a place of the size alone, in least form -/
theorem rg_least {a c d : Int} (a0 : 0 ≤ a) (a3 : a ≤ 3) (c0 : -999 ≤ c) (c1 : c ≤ 999) (d1 : 1 ≤ d) (d3 : d ≤ 3) : RgF (lf4 a c d) a c d := by
  have g0 := gg_pos (a := 0) (b := a) (d := d) (by omega)
  have ga := fdiv_bd (x := a) (M := 3) (g := (gg 0 a d : Int)) (by omega) (by decide) (by omega) (by omega)
  have gan := fdiv_nn (x := a) (m := (gg 0 a d : Int)) a0 (by omega)
  have gc := fdiv_bd (x := c) (M := 999) (g := (gg 0 a d : Int)) (by omega) (by decide) (by omega) (by omega)
  have gd := dv_bd (a := 0) (b := a) (d := d) (by omega)
  refine ⟨Int.zero_fdiv ((gg 0 a d : Nat) : Int), gan, ga.2, gc.1, gc.2, gd.1, Int.le_trans gd.2 d3, fun n => ?_⟩
  have e := val_least (a := 0) (b := a) (c := c) (d := d) (i := 0) (n := n) (by omega)
  simp only [Int.mul_zero, Int.zero_add] at e
  exact e
theorem rg_ck {t : P4} {a c d : Int} (h : RgF t a c d) : ckR t.1 t.2.1 t.2.2.1 t.2.2.2 = none := by
  obtain ⟨h1, h2, h3, h4, h5, h6, h7, _⟩ := h
  unfold ckR
  rw [ckn_ok (by omega) (by omega), ckn_ok h2 h3, ckn_ok h4 h5, ckn_ok h6 h7]
  rfl
section
variable {K : PySem.W.Frag} {H : Hp}
theorem rdNs_of {rs : List V} {ms : List RdM} (h : Fa (RdOb K H) rs ms) : RdNs K H rs (ms.map (·.x)) := by
  refine ⟨by rw [List.length_map, h.1], fun i v y a b => ?_⟩
  rw [List.getElem?_map] at b
  obtain ⟨m, hm, rfl⟩ := Option.map_eq_some_iff.mp b
  obtain ⟨p, x1, x2, x3, x4, e, ⟨dx, q, h1, _⟩, _⟩ := h.2 i v m a hm
  exact ⟨p, dx, _, e, h1, rdf_a _ _ _⟩
theorem stNs_of {xs : List V} {ms : List StM} (h : Fa (StOb K H) xs ms) : StNs K H xs (ms.map fun m => m.x :: m.rds.map (·.x)) := by
  refine ⟨by rw [List.length_map, h.1], fun i v y a b => ?_⟩
  rw [List.getElem?_map] at b
  obtain ⟨m, hm, rfl⟩ := Option.map_eq_some_iff.mp b
  obtain ⟨p, rs, cs, e, ⟨dx, q, r, g, h1, _, h3, _⟩, h5, _⟩ := h.2 i v m a hm
  exact ⟨p, dx, _, m.x, r, rs, _, e, h1, stf_a _ _ _ _ _, stf_r _ _ _ _ _, h3, rdNs_of h5, rfl⟩
theorem lpNs_of {xs : List V} {ls : List LpM} (h : Fa (LpOb K H) xs ls) : LpNs K H xs (ls.map fun l => (l.sts.map fun m => m.x :: m.rds.map (·.x)).flatten) := by
  refine ⟨by rw [List.length_map, h.1], fun i v y a b => ?_⟩
  rw [List.getElem?_map] at b
  obtain ⟨m, hm, rfl⟩ := Option.map_eq_some_iff.mp b
  obtain ⟨p, t, u, ws, e, ⟨dx, lo, hi, st, h1, _, _, h4⟩, _, _, h7⟩ := h.2 i v m a hm
  exact ⟨p, dx, _, st, ws, _, e, h1, lp_tt _ _ _ _ _, h4, stNs_of h7, rfl⟩
end
theorem flat_bound {α β : Type} {f : α → List β} {n : Nat} : ∀ {l : List α}, (∀ a ∈ l, (f a).length ≤ n) → (l.map f).flatten.length ≤ l.length * n
  | [], _ => by simp
  | a :: l, h => by
    rw [List.map_cons, List.flatten_cons, List.length_append, List.length_cons]
    have h1 := h a (List.mem_cons_self ..)
    have h2 := flat_bound (l := l) fun b hb => h b (List.mem_cons_of_mem _ hb)
    rw [Nat.add_mul]
    omega
theorem at5 {x y z u t s : V} {l : List V} : atI (x :: y :: z :: u :: t :: s :: l) 5 = some s := atI_nat (xs := x :: y :: z :: u :: t :: s :: l) (j := 5) rfl
section
variable {Pd : Addr → Prop} {H : Hp} {v : V}
theorem dl_gl {a b c : Int} (h : DL Pd H v (gdR (.lea a b c))) : ∃ t, v = .ref t ∧ H t = some (.tup [.str "least", .int a, .int b, .int c]) := by
  obtain ⟨t, xs, rfl, ht, ds⟩ := h.tup'
  cases ds with
  | cons d1 ds =>
    cases ds with
    | cons d2 ds =>
      cases ds with
      | cons d3 ds =>
        cases ds with
        | cons d4 ds =>
          cases ds
          cases d1
          cases d2
          cases d3
          cases d4
          exact ⟨t, rfl, ht⟩
theorem dl_gr {a b c m r : Int} (h : DL Pd H v (gdR (.rst a b c m r))) : ∃ t, v = .ref t ∧ H t = some (.tup [.str "rest", .int a, .int b, .int c, .int m, .int r]) := by
  obtain ⟨t, xs, rfl, ht, ds⟩ := h.tup'
  cases ds with
  | cons d1 ds =>
    cases ds with
    | cons d2 ds =>
      cases ds with
      | cons d3 ds =>
        cases ds with
        | cons d4 ds =>
          cases ds with
          | cons d5 ds =>
            cases ds with
            | cons d6 ds =>
              cases ds
              cases d1
              cases d2
              cases d3
              cases d4
              cases d5
              cases d6
              exact ⟨t, rfl, ht⟩
theorem dl_3 {a b c : Int} (h : DL Pd H v (i3 a b c)) : ∃ t, v = .ref t ∧ H t = some (.tup [.int a, .int b, .int c]) := by
  obtain ⟨t, xs, rfl, ht, ds⟩ := h.tup'
  cases ds with
  | cons d1 ds =>
    cases ds with
    | cons d2 ds =>
      cases ds with
      | cons d3 ds =>
        cases ds
        cases d1
        cases d2
        cases d3
        exact ⟨t, rfl, ht⟩
theorem dl_rd {r : RdM} (h : DL Pd H v (rdR r)) : ∃ t, v = .ref t ∧ H t = some (.tup [.str r.x, .int r.a, .int r.b, .int r.c, .int r.d]) := by
  obtain ⟨t, xs, rfl, ht, ds⟩ := h.tup'
  cases ds with
  | cons d1 ds =>
    cases ds with
    | cons d2 ds =>
      cases ds with
      | cons d3 ds =>
        cases ds with
        | cons d4 ds =>
          cases ds with
          | cons d5 ds =>
            cases ds
            cases d1
            cases d2
            cases d3
            cases d4
            cases d5
            exact ⟨t, rfl, ht⟩
theorem dl_st {s : StM} (h : DL Pd H v (stR s)) : ∃ t q tr tg xs ys, v = .ref t ∧ H t = some (.tup [.str s.x, .ref q, .ref tr, .ref tg]) ∧ H q = some (.tup [.int s.a, .int s.b, .int s.c]) ∧
    H tr = some (.lst xs) ∧ DLs Pd H xs (s.rds.map rdR) ∧ H tg = some (.lst ys) ∧ DLs Pd H ys (s.gds.map gdR) := by
  obtain ⟨t, xs, rfl, ht, ds⟩ := h.tup'
  cases ds with
  | cons d1 ds =>
    cases ds with
    | cons d2 ds =>
      cases ds with
      | cons d3 ds =>
        cases ds with
        | cons d4 ds =>
          cases ds
          cases d1
          obtain ⟨q, rfl, hq⟩ := dl_3 d2
          obtain ⟨tr, xr, rfl, _, hr, dr⟩ := d3.lst'
          obtain ⟨tg, xg, rfl, _, hg, dg⟩ := d4.lst'
          exact ⟨t, q, tr, tg, xr, xg, rfl, ht, hq, hr, dr, hg, dg⟩
theorem dl_lp {l : LpM} (h : DL Pd H v (lpR l)) : ∃ t q1 q2 ts xs, v = .ref t ∧ H t = some (.tup [.ref q1, .ref q2, .int l.S, .bl l.dn, .ref ts]) ∧ H q1 = some (.tup [.int l.l0, .int l.l1, .int l.l2]) ∧ H q2 = some (.tup [.int l.h0, .int l.h1, .int l.h2]) ∧
    H ts = some (.lst xs) ∧ DLs Pd H xs (l.sts.map stR) := by
  obtain ⟨t, xs, rfl, ht, ds⟩ := h.tup'
  cases ds with
  | cons d1 ds =>
    cases ds with
    | cons d2 ds =>
      cases ds with
      | cons d3 ds =>
        cases ds with
        | cons d4 ds =>
          cases ds with
          | cons d5 ds =>
            cases ds
            cases d3
            cases d4
            obtain ⟨q1, rfl, h1⟩ := dl_3 d1
            obtain ⟨q2, rfl, h2⟩ := dl_3 d2
            obtain ⟨ts, xt, rfl, _, h5, d5⟩ := d5.lst'
            exact ⟨t, q1, q2, ts, xt, rfl, ht, h1, h2, h5, d5⟩
end
def spLStr (K : PySem.W.Frag) : Sp := fun vs H Q _ => ∃ (q : Addr) (a b c : Int) (rest : List V), vs = [.ref q] ∧ H q = some (.tup (.int a :: .int b :: .int c :: rest)) ∧ ∀ r H', Same H H' → StrAt K H' r a b c → Q (.ref r) H'
def spLCond (K : PySem.W.Frag) : Sp := fun vs H Q _ => ∃ (Pd : Addr → Prop) (v : V) (g : Gd), vs = [v] ∧ DL Pd H v (gdR g) ∧ GdOk g ∧ ∀ v' H', Same H H' → GdOb K H' v' g → Q v' H'
def spLRead (K : PySem.W.Frag) : Sp := fun vs H Q _ => ∃ (Pd : Addr → Prop) (v : V) (r : RdM), vs = [v] ∧ DL Pd H v (rdR r) ∧ RdOk r ∧ ∀ v' H', Same H H' → RdOb K H' v' r → Q v' H'
def spLStm (K : PySem.W.Frag) : Sp := fun vs H Q _ => ∃ (Pd : Addr → Prop) (v : V) (s : StM), vs = [v] ∧ DL Pd H v (stR s) ∧ StOk s ∧ ∀ v' H', Same H H' → StOb K H' v' s → Q v' H'
def spLBound (K : PySem.W.Frag) : Sp := fun vs H Q _ => ∃ (q : Addr) (a c d : Int), vs = [.ref q] ∧ H q = some (.tup [.int a, .int c, .int d]) ∧ 0 ≤ a ∧ a ≤ 3 ∧ -999 ≤ c ∧ c ≤ 999 ∧ 1 ≤ d ∧ d ≤ 3 ∧ ∀ p H', Same H H' → PlcAt K H' p (lf4 a c d).1 (lf4 a c d).2.1 (lf4 a c d).2.2.1 (lf4 a c d).2.2.2 → Q (.ref p) H'
def spLLoop (K : PySem.W.Frag) : Sp := fun vs H Q _ => ∃ (Pd : Addr → Prop) (v : V) (l : LpM), vs = [v] ∧ DL Pd H v (lpR l) ∧ LpOk l ∧ ∀ v' H', Same H H' → LpOb K H' v' l → Q v' H'
def spLProg (K : PySem.W.Frag) : Sp := fun vs H Q _ => ∃ (Pd : Addr → Prop) (r : Addr) (xs : List V) (ls : List LpM), vs = [.ref r] ∧ H r = some (.lst xs) ∧ DLs Pd H xs (ls.map lpR) ∧ ls.length ≤ 6 ∧ (∀ l ∈ ls, LpOk l) ∧ ∀ v' H', Same H H' → PrOb K H' v' ls → Q v' H'
section
variable {P : Program} {w : World} {K : PySem.W.Frag} {mg : Str → Option Value} {base : Heap}
theorem sc_law_straight : FnScope ["_law_row"] ["_law_row"] (defScope s_law_straight) := ⟨rfl, rfl, rfl, by decide +kernel, rfl, by decide +kernel, by decide +kernel⟩
theorem ok_lstr {f : Addr} {fd : FuncData} (F : FnP K "_law_straight" s_law_straight f fd) (T : LwTx K mg) (M : MkS P w K mg base) : FnOk P w K mg base CX0 3 f fd ["_law_row"] (spLStr K) := by
  refine F.ok sc_law_straight (fun vs H Q E h => ?_) (fun cdv A outer s H vs Q E hr h => ?_)
  · obtain ⟨q, a, b, c, rest, rfl, _⟩ := h
    rfl
  · obtain ⟨q, a, b, c, rest, rfl, hq, k⟩ := h
    refine ⟨_, PSs.nox (pss_one (ps_ret (pe_SK (K := K) rfl T.toStTx M hr (pa_cons (pe_ix (ix_tupK (K := K) rfl) (pv 0) pe_int (fun _ _ => rfl)) (pa_cons (pe_ix (ix_tupK (K := K) rfl) (pv 0) pe_int (fun _ _ => rfl)) (pa_cons (pe_ix (ix_tupK (K := K) rfl) (pv 0) pe_int (fun _ _ => rfl)) pa_nil)))))), ?_⟩
    refine ⟨_, rfl, q, _, _, _, rfl, rfl, SqT.of hq, at0, _, rfl, q, _, _, _, rfl, rfl, SqT.of hq, at1, _, rfl, q, _, _, _, rfl, rfl, SqT.of hq, at2, a, b, c, rfl, fun r H' s _ hr => k r H' s hr⟩
theorem sc_law_condition : FnScope ["_law_row"] ["_law_row"] (defScope s_law_condition) := ⟨rfl, rfl, rfl, by decide +kernel, rfl, by decide +kernel, by decide +kernel⟩
theorem ok_lcond {f : Addr} {fd : FuncData} (F : FnP K "_law_condition" s_law_condition f fd) (T : LwTx K mg) (M : MkS P w K mg base) (MA : MkA P w K mg base) (MR : MkR P w K mg base) : FnOk P w K mg base CX0 6 f fd ["_law_row"] (spLCond K) := by
  refine F.ok sc_law_condition (fun vs H Q E h => ?_) (fun cdv A outer s H vs Q E hr h => ?_)
  · obtain ⟨Pd, v, g, rfl, _⟩ := h
    rfl
  · obtain ⟨Pd, v, g, rfl, hd, hok, k⟩ := h
    refine ⟨_, PSs.nox (pss_cons (ps_if (pt_cmpR op_eq (pe_ix (ix_tupK (K := K) rfl) (pv 0) pe_int (fun _ _ => rfl)) pe_str (nomark _)) (pss_one (ps_ret (pe_AK (K := K) rfl T.toAtTx MA hr (pa_cons (pe_SK (K := K) rfl T.toStTx M hr (pa_cons (pe_ix (ix_tupK (K := K) rfl) (pv 0) pe_int (fun _ _ => rfl)) (pa_cons (pe_ix (ix_tupK (K := K) rfl) (pv 0) pe_int (fun _ _ => rfl)) (pa_cons (pe_ix (ix_tupK (K := K) rfl) (pv 0) pe_int (fun _ _ => rfl)) pa_nil)))) pa_nil)))) pss_nil)
      (pss_one (ps_ret (pe_RK (K := K) rfl T.toAtTx MR hr at_E0 (pa_cons (pe_SK (K := K) rfl T.toStTx M hr (pa_cons (pe_ix (ix_tupK (K := K) rfl) (pv 0) pe_int (fun _ _ => rfl)) (pa_cons (pe_ix (ix_tupK (K := K) rfl) (pv 0) pe_int (fun _ _ => rfl)) (pa_cons (pe_ix (ix_tupK (K := K) rfl) (pv 0) pe_int (fun _ _ => rfl)) pa_nil)))) (pa_cons (pe_ix (ix_tupK (K := K) rfl) (pv 0) pe_int (fun _ _ => rfl)) (pa_cons (pe_ix (ix_tupK (K := K) rfl) (pv 0) pe_int (fun _ _ => rfl)) pa_nil))))))), ?_⟩
    cases g with
    | lea a b c =>
      obtain ⟨q, rfl, hq⟩ := dl_gl hd
      refine ⟨_, rfl, q, _, _, _, rfl, rfl, SqT.of hq, at0, rfl, _, rfl, if_yes (by decide +kernel) ?_⟩
      refine ⟨_, rfl, q, _, _, _, rfl, rfl, SqT.of hq, at1, _, rfl, q, _, _, _, rfl, rfl, SqT.of hq, at2, _, rfl, q, _, _, _, rfl, rfl, SqT.of hq, at3, a, b, c, rfl, fun r1 H1 s1 _ hr1 => ?_⟩
      refine ⟨.ref r1, a, b, c, rfl, .inl ⟨r1, rfl, hr1⟩, ?_, fun p2 H2 s2 h2 => k _ _ (s1.trans s2) ⟨p2, rfl, h2⟩⟩
      unfold GdOk sm3 at hok
      exact Nat.lt_of_le_of_lt (g2_le (N := 10) (by omega) (by omega)) (by decide)
    | rst a b c m r =>
      obtain ⟨q, rfl, hq⟩ := dl_gr hd
      obtain ⟨hok, m2, m4, r0, r1⟩ := hok
      refine ⟨_, rfl, q, _, _, _, rfl, rfl, SqT.of hq, at0, rfl, _, rfl, if_no (by decide +kernel) ?_⟩
      refine ⟨_, rfl, q, _, _, _, rfl, rfl, SqT.of hq, at1, _, rfl, q, _, _, _, rfl, rfl, SqT.of hq, at2, _, rfl, q, _, _, _, rfl, rfl, SqT.of hq, at3, a, b, c, rfl, fun r1 H1 s1 _ hr1 => ?_⟩
      have hq1 := s1 _ _ hq
      refine ⟨_, rfl, q, _, _, _, rfl, rfl, SqT.of hq1, at4, _, rfl, q, _, _, _, rfl, rfl, SqT.of hq1, at5, .ref r1, m, r, rfl, a, b, c, .inl ⟨r1, rfl, hr1⟩, fun z => absurd ⟨m2, m4⟩ z, fun _ _ z => absurd ⟨r0, by omega⟩ z, fun _ _ _ _ p2 H2 s2 h2 => k _ _ (s1.trans s2) ⟨p2, rfl, h2⟩⟩
theorem sc_law_read : FnScope ["_law_row"] ["_law_row"] (defScope s_law_read) := ⟨rfl, rfl, rfl, by decide +kernel, rfl, by decide +kernel, by decide +kernel⟩
theorem ok_lread {f : Addr} {fd : FuncData} (F : FnP K "_law_read" s_law_read f fd) (T : LwTx K mg) (M : MkS P w K mg base) (MP : MkP P w K mg base) (MRd : MkRd P w K mg base) : FnOk P w K mg base CX0 9 f fd ["_law_row"] (spLRead K) := by
  refine F.ok sc_law_read (fun vs H Q E h => ?_) (fun cdv A outer s H vs Q E hr h => ?_)
  · obtain ⟨Pd, v, r, rfl, _⟩ := h
    rfl
  · obtain ⟨Pd, v, r, rfl, hd, hok, k⟩ := h
    refine ⟨_, PSs.nox (pss_one (ps_ret (pe_RdP (K := K) MRd rfl hr at_E0 (pa_cons (pe_ix (ix_tupK (K := K) rfl) (pv 0) pe_int (fun _ _ => rfl)) (pa_cons (pe_PK (K := K) rfl T.plc MP hr at_E0 (pa_cons (pe_SK (K := K) rfl T.toStTx M hr (pa_cons (pe_ix (ix_tupK (K := K) rfl) (pv 0) pe_int (fun _ _ => rfl)) (pa_cons (pe_ix (ix_tupK (K := K) rfl) (pv 0) pe_int (fun _ _ => rfl)) (pa_cons (pe_ix (ix_tupK (K := K) rfl) (pv 0) pe_int (fun _ _ => rfl)) pa_nil)))) (pa_cons (pe_ix (ix_tupK (K := K) rfl) (pv 0) pe_int (fun _ _ => rfl)) pa_nil))) pa_nil))))), ?_⟩
    obtain ⟨t4, rfl, h4⟩ := dl_rd hd
    obtain ⟨rnm, ⟨ra0, ra1, rb0, rb1, rc0, rc1⟩, rd0, rd1, rf⟩ := hok
    refine ⟨_, rfl, t4, _, _, _, rfl, rfl, SqT.of h4, at0, _, rfl, t4, _, _, _, rfl, rfl, SqT.of h4, at1, _, rfl, t4, _, _, _, rfl, rfl, SqT.of h4, at2, _, rfl, t4, _, _, _, rfl, rfl, SqT.of h4, at3, r.a, r.b, r.c, rfl, fun r1 H1 s1 _ hr1 => ?_⟩
    have h4' := s1 _ _ h4
    refine ⟨_, rfl, t4, _, _, _, rfl, rfl, SqT.of h4', at4, .ref r1, r.d, rfl, r.a, r.b, r.c, .inl ⟨r1, rfl, hr1⟩, (fun z => absurd z (by omega)), fun d1 => ⟨?_, fun pp H2 s2 hpp => ?_⟩⟩
    · have := gg_le (a := r.a) (b := r.b) (d := r.d) (by omega)
      omega
    have g0 := gg_pos (a := r.a) (b := r.b) (d := r.d) (by omega)
    have ga := fdiv_bd (x := r.a) (M := 12) (g := (gg r.a r.b r.d : Int)) (by omega) (by decide) (by omega) (by omega)
    have gb := fdiv_bd (x := r.b) (M := 12) (g := (gg r.a r.b r.d : Int)) (by omega) (by decide) (by omega) (by omega)
    have gc := fdiv_bd (x := r.c) (M := 999) (g := (gg r.a r.b r.d : Int)) (by omega) (by decide) (by omega) (by omega)
    have gd := dv_bd (a := r.a) (b := r.b) (d := r.d) (by omega)
    refine ⟨r.x, .ref pp, 1, _, _, _, _, rfl, Nat.le_trans rnm.2 (by decide), .inl ⟨pp, rfl, hpp⟩, Out.ok ?_ fun p3 H3 s3 h3 => ?_⟩
    · unfold ckRead ckP
      rw [ck_name rnm, if_neg (by decide), ckn_ok (by decide) (by decide), cks_ok ga.1 ga.2 gb.1 gb.2 gc.1 gc.2, ckn_ok gd.1 (by omega)]
      rfl
    · refine k _ _ (s1.trans (s2.trans s3)) ⟨p3, _, _, _, _, rfl, ?_, ga.1, ga.2, gb.1, gb.2, gd.1, by omega, fun i n => val_least (by omega)⟩
      rw [rf]
      exact h3
theorem sc_law_bound : FnScope ["_law_row"] ["_law_row"] (defScope s_law_bound) := ⟨rfl, rfl, rfl, by decide +kernel, rfl, by decide +kernel, by decide +kernel⟩
theorem ok_lbound {f : Addr} {fd : FuncData} (F : FnP K "_law_bound" s_law_bound f fd) (T : LwTx K mg) (M : MkS P w K mg base) (MP : MkP P w K mg base) : FnOk P w K mg base CX0 6 f fd ["_law_row"] (spLBound K) := by
  refine F.ok sc_law_bound (fun vs H Q E h => ?_) (fun cdv A outer s H vs Q E hr h => ?_)
  · obtain ⟨q, a, c, d, rfl, _⟩ := h
    rfl
  · obtain ⟨q, a, c, d, rfl, hq, a0, a1, c0, c1, d0, d1, k⟩ := h
    refine ⟨_, PSs.nox (pss_one (ps_ret (pe_PK (K := K) rfl T.plc MP hr at_E0 (pa_cons (pe_SK (K := K) rfl T.toStTx M hr (pa_cons pe_int (pa_cons (pe_ix (ix_tupK (K := K) rfl) (pv 0) pe_int (fun _ _ => rfl)) (pa_cons (pe_ix (ix_tupK (K := K) rfl) (pv 0) pe_int (fun _ _ => rfl)) pa_nil)))) (pa_cons (pe_ix (ix_tupK (K := K) rfl) (pv 0) pe_int (fun _ _ => rfl)) pa_nil))))), ?_⟩
    refine ⟨_, rfl, q, _, _, _, rfl, rfl, SqT.of hq, at0, _, rfl, q, _, _, _, rfl, rfl, SqT.of hq, at1, 0, a, c, rfl, fun r1 H1 s1 _ hr1 => ?_⟩
    refine ⟨_, rfl, q, _, _, _, rfl, rfl, SqT.of (s1 _ _ hq), at2, .ref r1, d, rfl, 0, a, c, .inl ⟨r1, rfl, hr1⟩, (fun z => absurd z (by omega)), fun _ => ⟨?_, fun p1 H2 s2 hp1 => k _ _ (s1.trans s2) hp1⟩⟩
    have := gg_le (a := 0) (b := a) (d := d) (by omega)
    omega
theorem sc_law_statement : FnScope ["_law_row", "_law_found", "_law_one"] ["_law_row"] (defScope s_law_statement) := ⟨rfl, rfl, rfl, by decide +kernel, rfl, by decide +kernel, by decide +kernel⟩
theorem ok_lstm {f : Addr} {fd : FuncData} (F : FnP K "_law_statement" s_law_statement f fd) (T : LwTx K mg) (MSt : MkSt P w K mg base) (dLRead : Dn P w K mg base 9 "_law_read" ["_law_row"] (spLRead K)) (dLStr : Dn P w K mg base 3 "_law_straight" ["_law_row"] (spLStr K)) (dLCond : Dn P w K mg base 6 "_law_condition" ["_law_row"] (spLCond K)) :
    FnOk P w K mg base CX0 10 f fd ["_law_row"] (spLStm K) := by
  refine F.ok sc_law_statement (fun vs H Q E h => ?_) (fun cdv A outer s H vs Q E hr h => ?_)
  · obtain ⟨Pd, v, m, rfl, _⟩ := h
    rfl
  · obtain ⟨Pd, v, m, rfl, hd, hok, k⟩ := h
    refine ⟨_, PSs.nox (pss_cons (ps_setLc (i := 1) (own := [("_law_one", 2)]) (g := gName 2) (tt := tYes) rfl sc_law_statement.nd rfl rfl (sw_true rfl rfl rfl (by decide +kernel)) (pi_list (pe_ix (ix_tupK (K := K) rfl) (pv 0) pe_int (fun _ _ => rfl))) (blkOk_by (N := ["_law_row", "_law_found", "_law_one"]) (sc := defScope s_law_statement) (by decide +kernel)) (fun _ _ _ _ _ => (pg_name (i := 2) sc_law_statement.nd rfl (.inl rfl))) (fun _ _ _ _ _ => pts_nil) (fun _ _ _ _ _ => (pe_dn dLRead hr (pa_cons (pv 2) pa_nil))))
      (pss_one (ps_ret (pe_StK2 (K := K) MSt rfl hr at_E0 (pa_cons (pe_ix (ix_tupK (K := K) rfl) (pv 0) pe_int (fun _ _ => rfl)) (pa_cons (pe_dn dLStr hr (pa_cons (pe_ix (ix_tupK (K := K) rfl) (pv 0) pe_int (fun _ _ => rfl)) pa_nil)) (pa_cons pe_int pa_nil))) (pk_cons (pv 1) (pk_cons (pe_lc (own := [("_law_one", 2)]) (g := gName 2) (tt := tYes) rfl sc_law_statement.nd (pi_list (pe_ix (ix_tupK (K := K) rfl) (pv 0) pe_int (fun _ _ => rfl))) (blkOk_by (N := ["_law_row", "_law_found", "_law_one"]) (sc := defScope s_law_statement) (by decide +kernel)) (fun _ _ _ _ _ => (pg_name (i := 2) sc_law_statement.nd rfl (.inl rfl))) (fun _ _ _ _ _ => pts_nil) (fun _ _ _ _ _ => (pe_dn dLCond hr (pa_cons (pv 2) pa_nil)))) pk_nil)))))), ?_⟩
    obtain ⟨t, q, tr, tg, xr, xg, rfl, ht, hq, hr', dr, hg, dg⟩ := dl_st hd
    obtain ⟨nmx, ⟨sa0, sa1, sb0, sb1, sc0, sc1⟩, k0, k1, lr, lg, okr, okg⟩ := hok
    refine ⟨_, rfl, t, _, _, _, rfl, rfl, SqT.of ht, at2, tr, rfl, ⟨_, SqL.of hr'⟩, fun D hD => ?_⟩
    refine lc_list (K := K) (xs := xr) (fun i Hc => ∃ vs, Hc D = some (.lst vs) ∧ Fa (RdOb K Hc) vs (m.rds.take i) ∧ Same H Hc) ⟨[], upd_same, .nil, Same.new _ (Same.refl H) hD⟩ (fun i Hc _ z => SqL.of (z.choose_spec.2.2 _ _ hr')) ?_ ?_
    · rintro i v Hc hv ⟨vs, eD, fa, sc⟩
      obtain ⟨r, er, dv⟩ := (dr.to (.of sc)).map' hv
      refine ⟨rfl, yes_of ?_⟩
      refine ⟨_, rfl, Pd, v, r, rfl, dv, okr r (List.mem_of_getElem? er), fun v' H' s' hv' => ?_⟩
      have eD3 := s' _ _ eD
      refine ⟨vs, eD3, sz1l _ ?_, vs ++ [v'], upd_same, ?_, fun b o e => ?_⟩
      · rw [fa.1, List.length_take]
        omega
      · rw [List.take_add_one, er]
        have msU : MS H' (upd H' D (.lst (vs ++ [v']))) := .updL eD3
        exact (fa.imp fun _ _ z => (z.same s').ms msU).snoc (hv'.ms msU)
      · rw [upd_ne (ne_of_none e hD)]
        exact s' _ _ (sc b o e)
    rintro H1 ⟨vs, eD, fa, s1⟩
    have lxr : xr.length = m.rds.length := by rw [dr.len, List.length_map]
    rw [lxr, List.take_length] at fa
    refine normG (σ' := [some (.ref t), some (.ref D), none]) rfl ?_
    try dsimp only
    refine ⟨_, rfl, t, _, _, _, rfl, rfl, SqT.of (s1 _ _ ht), at0, _, rfl, t, _, _, _, rfl, rfl, SqT.of (s1 _ _ ht), at1, q, m.a, m.b, m.c, [], rfl, s1 _ _ hq, fun r1 H2 s2 hr1 => ?_⟩
    have s12 := s1.trans s2
    refine ⟨_, rfl, _, rfl, t, _, _, _, rfl, rfl, SqT.of (s12 _ _ ht), at3, tg, rfl, ⟨_, SqL.of (s12 _ _ hg)⟩, fun D2 hD2 => ?_⟩
    refine lc_list (K := K) (xs := xg) (fun i Hc => ∃ ws, Hc D2 = some (.lst ws) ∧ Fa (GdOb K Hc) ws (m.gds.take i) ∧ Same H2 Hc) ⟨[], upd_same, .nil, Same.new _ (Same.refl H2) hD2⟩ (fun i Hc _ z => SqL.of (z.choose_spec.2.2 _ _ (s12 _ _ hg))) ?_ ?_
    · rintro i v Hc hv ⟨ws, eD2, fg, sc⟩
      obtain ⟨g, eg, dv⟩ := (dg.to (.of (s12.trans sc))).map' hv
      refine ⟨rfl, yes_of ?_⟩
      refine ⟨_, rfl, Pd, v, g, rfl, dv, okg g (List.mem_of_getElem? eg), fun v' H' s' hv' => ?_⟩
      have eD3 := s' _ _ eD2
      refine ⟨ws, eD3, sz1l _ ?_, ws ++ [v'], upd_same, ?_, fun b o e => ?_⟩
      · rw [fg.1, List.length_take]
        omega
      · rw [List.take_add_one, eg]
        have msU : MS H' (upd H' D2 (.lst (ws ++ [v']))) := .updL eD3
        exact (fg.imp fun _ _ z => (z.same s').ms msU).snoc (hv'.ms msU)
      · rw [upd_ne (ne_of_none e hD2)]
        exact s' _ _ (sc b o e)
    rintro H3 ⟨ws, eD2, fg, s3⟩
    have lxg : xg.length = m.gds.length := by rw [dg.len, List.length_map]
    rw [lxg, List.take_length] at fg
    obtain ⟨cc, hcc, hck⟩ := cnds_of T okg fg
    refine ⟨rfl, rfl, m.x, .ref r1, 1, D, D2, vs, ws, cc, m.a, m.b, m.c, rfl, Nat.le_trans nmx.2 (by decide), .inl ⟨r1, rfl, hr1.same s3⟩, .inl (SqL.of (s3 _ _ (s2 _ _ eD))), .inl (SqL.of eD2), hcc, Out.ok ?_ fun p4 H4 s4 h4 => ?_⟩
    · unfold ckStm ckM
      rw [fa.1, fg.1, if_pos (by omega), if_pos (by omega), ck_name nmx, hck, cks_ok (by omega) (by omega) (by omega) (by omega) (by omega) (by omega), ckn_ok (by decide) (by decide)]
      rfl
    · refine k _ _ (s12.trans (s3.trans s4)) ⟨p4, vs, ws, rfl, ?_, fa.imp fun _ _ z => z.same (s2.trans (s3.trans s4)), fg.imp fun _ _ z => z.same s4⟩
      rw [show m.k = 1 by omega]
      exact h4
theorem sc_law_loop : FnScope ["_law_row", "_law_found", "_law_one"] ["_law_row"] (defScope s_law_loop) := ⟨rfl, rfl, rfl, by decide +kernel, rfl, by decide +kernel, by decide +kernel⟩
theorem ok_lloop {f : Addr} {fd : FuncData} (F : FnP K "_law_loop" s_law_loop f fd) (T : LwTx K mg) (MLp : MkLp P w K mg base) (dLStm : Dn P w K mg base 10 "_law_statement" ["_law_row"] (spLStm K)) (dLBound : Dn P w K mg base 6 "_law_bound" ["_law_row"] (spLBound K)) : FnOk P w K mg base CX0 11 f fd ["_law_row"] (spLLoop K) := by
  refine F.ok sc_law_loop (fun vs H Q E h => ?_) (fun cdv A outer s H vs Q E hr h => ?_)
  · obtain ⟨Pd, v, m, rfl, _⟩ := h
    rfl
  · obtain ⟨Pd, v, m, rfl, hd, hok, k⟩ := h
    refine ⟨_, PSs.nox (pss_cons (ps_setLc (i := 1) (own := [("_law_one", 2)]) (g := gName 2) (tt := tYes) rfl sc_law_loop.nd rfl rfl (sw_true rfl rfl rfl (by decide +kernel)) (pi_list (pe_ix (ix_tupK (K := K) rfl) (pv 0) pe_int (fun _ _ => rfl))) (blkOk_by (N := ["_law_row", "_law_found", "_law_one"]) (sc := defScope s_law_loop) (by decide +kernel)) (fun _ _ _ _ _ => (pg_name (i := 2) sc_law_loop.nd rfl (.inl rfl))) (fun _ _ _ _ _ => pts_nil) (fun _ _ _ _ _ => (pe_dn dLStm hr (pa_cons (pv 2) pa_nil))))
      (pss_one (ps_ret (pe_LpK (K := K) MLp rfl hr at_E0 (pa_cons (pe_dn dLBound hr (pa_cons (pe_ix (ix_tupK (K := K) rfl) (pv 0) pe_int (fun _ _ => rfl)) pa_nil)) (pa_cons (pe_dn dLBound hr (pa_cons (pe_ix (ix_tupK (K := K) rfl) (pv 0) pe_int (fun _ _ => rfl)) pa_nil)) (pa_cons (pv 1) pa_nil))) (pk_cons (pe_ix (ix_tupK (K := K) rfl) (pv 0) pe_int (fun _ _ => rfl)) (pk_cons (pe_ix (ix_tupK (K := K) rfl) (pv 0) pe_int (fun _ _ => rfl)) pk_nil)))))), ?_⟩
    obtain ⟨t, q1, q2, ts, xs, rfl, ht, h1, h2, hts, ds⟩ := dl_lp hd
    obtain ⟨a0, a1, b0, b1, c0, c1, x0, x1, y0, y1, z0, z1, S0, S1, hS, n0, n3, okS⟩ := hok
    refine ⟨_, rfl, t, _, _, _, rfl, rfl, SqT.of ht, at4, ts, rfl, ⟨_, SqL.of hts⟩, fun D hD => ?_⟩
    refine lc_list (K := K) (xs := xs) (fun i Hc => ∃ ws, Hc D = some (.lst ws) ∧ Fa (StOb K Hc) ws (m.sts.take i) ∧ Same H Hc) ⟨[], upd_same, .nil, Same.new _ (Same.refl H) hD⟩ (fun i Hc _ z => SqL.of (z.choose_spec.2.2 _ _ hts)) ?_ ?_
    · rintro i v Hc hv ⟨ws, eD, fg, sc⟩
      obtain ⟨g, eg, dv⟩ := (ds.to (.of sc)).map' hv
      refine ⟨rfl, yes_of ?_⟩
      refine ⟨_, rfl, Pd, v, g, rfl, dv, okS g (List.mem_of_getElem? eg), fun v' H' s' hv' => ?_⟩
      have eD3 := s' _ _ eD
      refine ⟨ws, eD3, sz1l _ ?_, ws ++ [v'], upd_same, ?_, fun b o e => ?_⟩
      · rw [fg.1, List.length_take]
        omega
      · rw [List.take_add_one, eg]
        have msU : MS H' (upd H' D (.lst (ws ++ [v']))) := .updL eD3
        exact (fg.imp fun _ _ z => (z.same s').ms msU).snoc (hv'.ms msU)
      · rw [upd_ne (ne_of_none e hD)]
        exact s' _ _ (sc b o e)
    rintro H1 ⟨ws, eD, fg, s1⟩
    have lxs : xs.length = m.sts.length := by rw [ds.len, List.length_map]
    rw [lxs, List.take_length] at fg
    refine normG (σ' := [some (.ref t), some (.ref D), none]) rfl ?_
    try dsimp only
    refine ⟨_, rfl, t, _, _, _, rfl, rfl, SqT.of (s1 _ _ ht), at0, q1, m.l0, m.l1, m.l2, rfl, s1 _ _ h1, a0, by omega, by omega, by omega, c0, c1, fun p1 H2 s2 hp1 => ?_⟩
    have s12 := s1.trans s2
    refine ⟨_, rfl, t, _, _, _, rfl, rfl, SqT.of (s12 _ _ ht), at1, q2, m.h0, m.h1, m.h2, rfl, s12 _ _ h2, x0, x1, by omega, by omega, z0, z1, fun p2 H3 s3 hp2 => ?_⟩
    have s13 := s12.trans s3
    have ht3 := s13 _ _ ht
    refine ⟨_, rfl, _, rfl, t, _, _, _, rfl, rfl, SqT.of ht3, at2, _, rfl, t, _, _, _, rfl, rfl, SqT.of ht3, at3, rfl, rfl, ?_⟩
    have f1 := rg_least (a := m.l0) (c := m.l1) (d := m.l2) a0 (by omega) (by omega) (by omega) c0 (by omega)
    have f2 := rg_least (a := m.h0) (c := m.h1) (d := m.h2) x0 (by omega) (by omega) (by omega) z0 z1
    refine ⟨.ref p1, .ref p2, D, ws, lf4 m.l0 m.l1 m.l2, lf4 m.h0 m.h1 m.h2, m.S, m.dn, rfl, .inl ⟨p1, rfl, hp1.same s3⟩, .inl ⟨p2, rfl, hp2⟩, .inl (SqL.of (s3 _ _ (s2 _ _ eD))), Out.ok ?_ fun p6 H6 s6 h6 => ?_⟩
    · unfold ckLp ckLoop ckM
      rw [fg.1, if_pos (by omega), ckn_ok (by omega) (by omega), rg_ck f1, rg_ck f2, if_neg ?_]
      · rfl
      rintro ⟨q1, q2⟩
      have e := hS q1
      have q3 : 1 < m.l2.fdiv (gg 0 m.l0 m.l2) := q2
      have := (dv_bd (a := 0) (b := m.l0) (d := m.l2) (by omega)).2
      omega
    · exact k _ _ (s13.trans s6) ⟨p6, _, _, ws, rfl, h6, f1, f2, fg.imp fun _ _ z => z.same (s2.trans (s3.trans s6))⟩
theorem sc_law_program : FnScope ["_law_rows", "_law_row"] ["_law_rows"] (defScope s_law_program) := ⟨rfl, rfl, rfl, by decide +kernel, rfl, by decide +kernel, by decide +kernel⟩
theorem ok_lprog {f : Addr} {fd : FuncData} (F : FnP K "_law_program" s_law_program f fd) (T : LwTx K mg) (MPr : MkPr P w K mg base) (dLLoop : Dn P w K mg base 11 "_law_loop" ["_law_row"] (spLLoop K)) : FnOk P w K mg base CX0 12 f fd ["_law_rows"] (spLProg K) := by
  refine F.ok sc_law_program (fun vs H Q E h => ?_) (fun cdv A outer s H vs Q E hr h => ?_)
  · obtain ⟨Pd, r, xs, ls, rfl, _⟩ := h
    rfl
  · obtain ⟨Pd, r, xs, ls, rfl, hr0, ds, l3, ok, k⟩ := h
    refine ⟨_, PSs.nox (pss_one (ps_ret (pe_PrP (K := K) MPr rfl hr at_E0 (pa_cons (pe_lc (own := [("_law_row", 1)]) (g := gName 1) (tt := tYes) rfl sc_law_program.nd (pi_list (pv 0)) (blkOk_by (N := ["_law_rows", "_law_row"]) (sc := defScope s_law_program) (by decide +kernel)) (fun _ _ _ _ _ => (pg_name (i := 1) sc_law_program.nd rfl (.inl rfl))) (fun _ _ _ _ _ => pts_nil) (fun _ _ _ _ _ => (pe_dn dLLoop hr (pa_cons (pv 1) pa_nil)))) pa_nil)))), ?_⟩
    refine ⟨_, rfl, r, rfl, ⟨_, SqL.of hr0⟩, fun D hD => ?_⟩
    refine lc_list (K := K) (xs := xs) (fun i Hc => ∃ ws, Hc D = some (.lst ws) ∧ Fa (LpOb K Hc) ws (ls.take i) ∧ Same H Hc) ⟨[], upd_same, .nil, Same.new _ (Same.refl H) hD⟩ (fun i Hc _ z => SqL.of (z.choose_spec.2.2 _ _ hr0)) ?_ ?_
    · rintro i v Hc hv ⟨ws, eD, fg, sc⟩
      obtain ⟨g, eg, dv⟩ := (ds.to (.of sc)).map' hv
      refine ⟨rfl, yes_of ?_⟩
      refine ⟨_, rfl, Pd, v, g, rfl, dv, ok g (List.mem_of_getElem? eg), fun v' H' s' hv' => ?_⟩
      have eD3 := s' _ _ eD
      refine ⟨ws, eD3, sz1l _ ?_, ws ++ [v'], upd_same, ?_, fun b o e => ?_⟩
      · rw [fg.1, List.length_take]
        omega
      · rw [List.take_add_one, eg]
        have msU : MS H' (upd H' D (.lst (ws ++ [v']))) := .updL eD3
        exact (fg.imp fun _ _ z => (z.same s').ms msU).snoc (hv'.ms msU)
      · rw [upd_ne (ne_of_none e hD)]
        exact s' _ _ (sc b o e)
    rintro H5 ⟨ws, eD, fg, s5⟩
    have lxs : xs.length = ls.length := by rw [ds.len, List.length_map]
    rw [lxs, List.take_length] at fg
    refine ⟨D, ws, _, rfl, .inl (SqL.of eD), lpNs_of fg, ?_, Out.ok ?_ fun p ys H6 s6 h6 _ _ _ => ?_⟩
    · refine Nat.le_trans (flat_bound (n := 12) fun l hl => ?_) (by omega)
      obtain ⟨_, _, _, _, _, _, _, _, _, _, _, _, _, _, _, _, n3, okS⟩ := ok l hl
      refine Nat.le_trans (flat_bound (n := 4) fun m hm => ?_) (by omega)
      obtain ⟨_, _, _, _, lr, _⟩ := okS m hm
      rw [List.length_cons, List.length_map]
      omega
    · unfold ckM
      rw [fg.1, if_pos (by omega)]
    · exact k _ _ (s5.trans s6) ⟨p, ws, ys, rfl, h6, fg.imp fun _ _ z => z.same s6⟩
end
end K35
set_option maxHeartbeats 4000000
namespace K35
open PySem PySem.Spec PyProof.Rows L2 Z
def spLLeast : Sp := fun vs H Q _ => ∃ (Pd : Addr → Prop) (v : V) (l : LpM) (n : Int), vs = [v, .int n] ∧ DL Pd H v (lpR l) ∧ LpOk l ∧ Q (.int (lpL l n)) H
def spLTurns : Sp := fun vs H Q _ => ∃ (Pd : Addr → Prop) (v : V) (l : LpM) (n : Int), vs = [v, .int n] ∧ DL Pd H v (lpR l) ∧ LpOk l ∧ Q (.int (lpN l n)) H
def spHolds : Sp := fun vs H Q _ => ∃ (Pd : Addr → Prop) (v : V) (g : Gd) (i n : Int), vs = [v, .int i, .int n] ∧ DL Pd H v (gdR g) ∧ GdOk g ∧ Q (.bl (gdV g i n)) H
def spLDone : Sp := fun vs H Q _ => ∃ (Pd : Addr → Prop) (v : V) (s : StM) (i n : Int), vs = [v, .int i, .int n] ∧ DL Pd H v (stR s) ∧ StOk s ∧ ∀ H', Same H H' → Q (.bl (stDone s i n)) H'
def spCounters : Sp := fun vs H Q _ => ∃ (Pd : Addr → Prop) (v : V) (l : LpM) (n : Int), vs = [v, .int n] ∧ DL Pd H v (lpR l) ∧ LpOk l ∧ lpN l n ≤ 5000 ∧ ∀ D H', Same H H' → H D = none → H' D = some (.lst ((lpCs l n).map V.int)) → Q (.ref D) H'
def spWorks : Sp := fun vs H Q _ => ∃ (Pd : Addr → Prop) (r : Addr) (xs : List V) (ls : List LpM) (n : Int), vs = [.ref r, .int n] ∧ H r = some (.lst xs) ∧ DLs Pd H xs (ls.map lpR) ∧ ls.length ≤ 6 ∧ (∀ l ∈ ls, LpOk l) ∧ (∀ l ∈ ls, lpN l n ≤ 5000) ∧
  ∀ (D : Addr) (H' : Hp) (ws : List V), Same H H' → H D = none → H' D = some (.lst ws) → DTs H' ws ((works ls n).map wD) → Q (.ref D) H'
theorem up_div {x S : Int} (h : 1 ≤ S) : (x + S - 1).fdiv S = -((-x).fdiv S) := by
  rw [Int.fdiv_eq_ediv_of_nonneg _ (by omega), Int.fdiv_eq_ediv_of_nonneg _ (by omega)]
  have e1 := Int.mul_ediv_add_emod (-x) S
  have e2 := Int.emod_nonneg (-x) (show S ≠ 0 by omega)
  have e3 := Int.emod_lt_of_pos (-x) (show 0 < S by omega)
  obtain ⟨q, hq⟩ : ∃ q, q = (-x) / S := ⟨_, rfl⟩
  obtain ⟨r, hr⟩ : ∃ r, r = (-x) % S := ⟨_, rfl⟩
  rw [← hq, ← hr] at e1
  rw [← hr] at e2 e3
  rw [← hq]
  have e5 : x + S - 1 = (S - 1 - r) + S * (-q) := by
    rw [Int.mul_neg]
    omega
  rw [e5, Int.add_mul_ediv_left _ _ (show S ≠ 0 by omega), Int.ediv_eq_zero_of_lt (by omega) (by omega), Int.zero_add]
section
variable {P : Program} {w : World} {K : PySem.W.Frag} {mg : Str → Option Value} {base : Heap}
theorem sc_law_least : FnScope ["_law_loop_here", "_law_n", "_law_low"] ["_law_loop_here", "_law_n"] (defScope s_law_least) := ⟨rfl, rfl, rfl, by decide +kernel, rfl, by decide +kernel, by decide +kernel⟩
theorem ok_lleast {f : Addr} {fd : FuncData} (F : FnP K "_law_least" s_law_least f fd) (T : LwTx K mg) : FnOk P w K mg base CX0 1 f fd ["_law_loop_here", "_law_n"] spLLeast := by
  refine F.ok sc_law_least (fun vs H Q E h => ?_) (fun cdv A outer s H vs Q E hr h => ?_)
  · obtain ⟨Pd, v, l, n, rfl, _⟩ := h
    rfl
  · obtain ⟨Pd, v, l, n, rfl, hd, ok, k⟩ := h
    obtain ⟨r, t1, t2, ts, xs, rfl, h1, h2, h3, _, _⟩ := dl_lp hd
    obtain ⟨a0, a1, c0, c1, d0, d1, x0, x1, z0, z1, u0, u1, S0, S1, _⟩ := ok
    refine ⟨_, PSs.nox (pss_cons (ps_set (i := 2) sc_law_least.nd rfl (Or.inl rfl) (pe_op op_fdivN (pe_callTy call_int1 (by rfl) T.int (by decide +kernel) (pa_cons (pe_op op_add (pe_op op_mul (pe_ix (ix_tupK (K := K) rfl) (pe_ix (ix_tupK (K := K) rfl) (pv 0) pe_int (fun _ _ => rfl)) pe_int (fun _ _ => rfl)) (pv 1)) (pe_ix (ix_tupK (K := K) rfl) (pe_ix (ix_tupK (K := K) rfl) (pv 0) pe_int (fun _ _ => rfl)) pe_int (fun _ _ => rfl))) pa_nil)) (pe_ix (ix_tupK (K := K) rfl) (pe_ix (ix_tupK (K := K) rfl) (pv 0) pe_int (fun _ _ => rfl)) pe_int (fun _ _ => rfl))))
      (pss_one (ps_ret (pe_ifExp (pt_cmpR op_ge (pv 2) pe_int (nomark _)) (pv 2) (pe_op op_modN (pe_callTy call_int1 (by rfl) T.int (by decide +kernel) (pa_cons (pv 2) pa_nil)) (pe_ix (ix_tupK (K := K) rfl) (pv 0) pe_int (fun _ _ => rfl))))))), ?_⟩
    refine ⟨_, rfl, r, _, _, _, rfl, rfl, SqT.of h1, at0, t1, _, _, _, rfl, rfl, SqT.of h2, at0, _, rfl, _, _, rfl, rfl, .inl ⟨by omega, by omega⟩, ?_⟩
    refine ⟨_, rfl, r, _, _, _, rfl, rfl, SqT.of h1, at0, t1, _, _, _, rfl, rfl, SqT.of h2, at1, _, _, rfl, rfl, .inl ⟨_, rfl, ?_⟩⟩
    refine ⟨_, rfl, r, _, _, _, rfl, rfl, SqT.of h1, at0, t1, _, _, _, rfl, rfl, SqT.of h2, at2, _, _, rfl, rfl, ⟨by omega, by omega⟩, ?_⟩
    refine normG (σ' := [some (.ref r), some (.int n), some (.int (pv_ l.l0 l.l1 l.l2 n))]) rfl ?_
    unfold lpL lc_ at k
    refine ⟨_, rfl, _, _, rfl, rfl, _, rfl, ite2 (fun h => ?_) (fun h => ?_)⟩
    · rw [if_pos (of_decide_eq_true h)] at k
      exact ⟨_, rfl, k⟩
    · rw [if_neg (fun z => h (decide_eq_true z))] at k
      exact ⟨_, rfl, .inl ⟨_, rfl, _, rfl, r, _, _, _, rfl, rfl, SqT.of h1, at2, _, _, rfl, rfl, by omega, k⟩⟩
theorem sc_law_turns : FnScope ["_law_loop_here", "_law_n", "_law_high", "_law_room"] ["_law_loop_here", "_law_n"] (defScope s_law_turns) := ⟨rfl, rfl, rfl, by decide +kernel, rfl, by decide +kernel, by decide +kernel⟩
theorem ok_lturns {f : Addr} {fd : FuncData} (F : FnP K "_law_turns" s_law_turns f fd) (T : LwTx K mg) (dLLeast : Dn P w K mg base 1 "_law_least" ["_law_loop_here", "_law_n"] spLLeast) : FnOk P w K mg base CX0 2 f fd ["_law_loop_here", "_law_n"] spLTurns := by
  refine F.ok sc_law_turns (fun vs H Q E h => ?_) (fun cdv A outer s H vs Q E hr h => ?_)
  · obtain ⟨Pd, v, l, n, rfl, _⟩ := h
    rfl
  · obtain ⟨Pd, v, l, n, rfl, hd, ok, k⟩ := h
    obtain ⟨r, t1, t2, ts, xs, rfl, h1, h2, h3, _, _⟩ := dl_lp hd
    have ok' := ok
    obtain ⟨a0, a1, c0, c1, d0, d1, x0, x1, z0, z1, u0, u1, S0, S1, _⟩ := ok
    refine ⟨_, PSs.nox (pss_cons (ps_set (i := 2) sc_law_turns.nd rfl (Or.inl rfl) (pe_ix (ix_tupK (K := K) rfl) (pv 0) pe_int (fun _ _ => rfl)))
      (pss_cons (ps_set (i := 3) sc_law_turns.nd rfl (Or.inl rfl) (pe_op op_sub (pe_op op_fdivN (pe_callTy call_int1 (by rfl) T.int (by decide +kernel) (pa_cons (pe_op op_add (pe_op op_mul (pe_ix (ix_tupK (K := K) rfl) (pv 2) pe_int (fun _ _ => rfl)) (pv 1)) (pe_ix (ix_tupK (K := K) rfl) (pv 2) pe_int (fun _ _ => rfl))) pa_nil)) (pe_ix (ix_tupK (K := K) rfl) (pv 2) pe_int (fun _ _ => rfl))) (pe_dn dLLeast hr (pa_cons (pv 0) (pa_cons (pv 1) pa_nil)))))
      (pss_one (ps_ret (pe_callB (call_max2 rfl) (by rfl) T.max (by decide +kernel) (pa_cons pe_int (pa_cons (pe_op op_fdivN (pe_op op_sub (pe_op op_add (pv 3) (pe_ix (ix_tupK (K := K) rfl) (pv 0) pe_int (fun _ _ => rfl))) pe_int) (pe_ix (ix_tupK (K := K) rfl) (pv 0) pe_int (fun _ _ => rfl))) pa_nil))))))), ?_⟩
    refine ⟨_, rfl, r, _, _, _, rfl, rfl, SqT.of h1, at1, ?_⟩
    refine normG (σ' := [some (.ref r), some (.int n), some (.ref t2), none]) rfl ?_
    try dsimp only
    refine ⟨_, rfl, t2, _, _, _, rfl, rfl, SqT.of h3, at0, _, rfl, _, _, rfl, rfl, .inl ⟨by omega, by omega⟩, ?_⟩
    refine ⟨_, rfl, t2, _, _, _, rfl, rfl, SqT.of h3, at1, _, _, rfl, rfl, .inl ⟨_, rfl, ?_⟩⟩
    refine ⟨_, rfl, t2, _, _, _, rfl, rfl, SqT.of h3, at2, _, _, rfl, rfl, ⟨by omega, by omega⟩, ?_⟩
    refine ⟨_, rfl, _, rfl, Pd, _, l, n, rfl, hd, ok', _, _, rfl, rfl, ?_⟩
    refine normG (σ' := [some (.ref r), some (.int n), some (.ref t2), some (.int (pv_ l.h0 l.h1 l.h2 n - lpL l n))]) rfl ?_
    try dsimp only
    refine ⟨_, rfl, _, rfl, r, _, _, _, rfl, rfl, SqT.of h1, at2, _, _, rfl, rfl, _, _, rfl, rfl, _, rfl, r, _, _, _, rfl, rfl, SqT.of h1, at2, _, _, rfl, rfl, ⟨by omega, by omega⟩, _, _, rfl, ?_⟩
    rw [up_div S0]
    unfold lpN mt_ at k
    rw [show -(pv_ l.h0 l.h1 l.h2 n - lpL l n) = lpL l n - pv_ l.h0 l.h1 l.h2 n by omega]
    exact k
theorem sc_law_holds : FnScope ["_law_row", "_law_i", "_law_n", "_law_whole"] ["_law_row", "_law_i", "_law_n"] (defScope s_law_holds) := ⟨rfl, rfl, rfl, by decide +kernel, rfl, by decide +kernel, by decide +kernel⟩
theorem ok_holds {f : Addr} {fd : FuncData} (F : FnP K "_law_holds" s_law_holds f fd) (T : LwTx K mg) : FnOk P w K mg base CX0 1 f fd ["_law_row", "_law_i", "_law_n"] spHolds := by
  refine F.ok sc_law_holds (fun vs H Q E h => ?_) (fun cdv A outer s H vs Q E hr h => ?_)
  · obtain ⟨Pd, v, g, i, n, rfl, _⟩ := h
    rfl
  · obtain ⟨Pd, v, g, i, n, rfl, hd, ok, k⟩ := h
    refine ⟨_, PSs.nox (pss_cons (ps_set (i := 3) sc_law_holds.nd rfl (Or.inl rfl) (pe_op op_add (pe_op op_add (pe_op op_mul (pe_ix (ix_tupK (K := K) rfl) (pv 0) pe_int (fun _ _ => rfl)) (pv 1)) (pe_op op_mul (pe_ix (ix_tupK (K := K) rfl) (pv 0) pe_int (fun _ _ => rfl)) (pv 2))) (pe_ix (ix_tupK (K := K) rfl) (pv 0) pe_int (fun _ _ => rfl))))
      (pss_one (ps_ret (pe_ifExp (pt_cmpR op_eq (pe_ix (ix_tupK (K := K) rfl) (pv 0) pe_int (fun _ _ => rfl)) pe_str (nomark _)) (pe_cmpR op_ge (pv 3) pe_int (nomark _)) (pe_cmpR op_eq (pe_op op_modN (pe_callTy call_int1 (by rfl) T.int (by decide +kernel) (pa_cons (pv 3) pa_nil)) (pe_ix (ix_tupK (K := K) rfl) (pv 0) pe_int (fun _ _ => rfl))) (pe_ix (ix_tupK (K := K) rfl) (pv 0) pe_int (fun _ _ => rfl)) (nomark _)))))), ?_⟩
    cases g with
    | lea a b c =>
      obtain ⟨q, rfl, hq⟩ := dl_gl hd
      obtain ⟨o1, o2, o3, o4, o5, o6⟩ := ok
      refine ⟨_, rfl, q, _, _, _, rfl, rfl, SqT.of hq, at1, _, rfl, _, _, rfl, rfl, .inl ⟨by omega, by omega⟩, ?_⟩
      refine ⟨_, rfl, q, _, _, _, rfl, rfl, SqT.of hq, at2, _, rfl, _, _, rfl, rfl, .inl ⟨by omega, by omega⟩, _, _, rfl, rfl, ?_⟩
      refine ⟨_, rfl, q, _, _, _, rfl, rfl, SqT.of hq, at3, _, _, rfl, rfl, ?_⟩
      refine normG (σ' := [some (.ref q), some (.int i), some (.int n), some (.int (a * i + b * n + c))]) rfl ?_
      exact ⟨_, rfl, q, _, _, _, rfl, rfl, SqT.of hq, at0, rfl, _, rfl, if_yes (by decide +kernel) ⟨_, rfl, _, _, rfl, rfl, k⟩⟩
    | rst a b c m r =>
      obtain ⟨q, rfl, hq⟩ := dl_gr hd
      obtain ⟨⟨o1, o2, o3, o4, o5, o6⟩, m2, m4, r0, r1⟩ := ok
      refine ⟨_, rfl, q, _, _, _, rfl, rfl, SqT.of hq, at1, _, rfl, _, _, rfl, rfl, .inl ⟨by omega, by omega⟩, ?_⟩
      refine ⟨_, rfl, q, _, _, _, rfl, rfl, SqT.of hq, at2, _, rfl, _, _, rfl, rfl, .inl ⟨by omega, by omega⟩, _, _, rfl, rfl, ?_⟩
      refine ⟨_, rfl, q, _, _, _, rfl, rfl, SqT.of hq, at3, _, _, rfl, rfl, ?_⟩
      refine normG (σ' := [some (.ref q), some (.int i), some (.int n), some (.int (a * i + b * n + c))]) rfl ?_
      refine ⟨_, rfl, q, _, _, _, rfl, rfl, SqT.of hq, at0, rfl, _, rfl, if_no (by decide +kernel) ?_⟩
      refine ⟨_, rfl, .inl ⟨_, rfl, _, rfl, q, _, _, _, rfl, rfl, SqT.of hq, at4, _, _, rfl, rfl, by omega, _, rfl, q, _, _, _, rfl, rfl, SqT.of hq, at5, rfl, ?_⟩⟩
      have e : decide (V.int ((a * i + b * n + c).fmod m) = V.int r) = decide ((a * i + b * n + c).fmod m = r) := decide_eq_decide.mpr ⟨V.int.inj, congrArg V.int⟩
      rw [e]
      exact k
theorem sc_law_done : FnScope ["_law_statement_here", "_law_i", "_law_n", "_law_row"] ["_law_statement_here", "_law_i", "_law_n"] (defScope s_law_done) := ⟨rfl, rfl, rfl, by decide +kernel, rfl, by decide +kernel, by decide +kernel⟩
theorem ok_ldone {f : Addr} {fd : FuncData} (F : FnP K "_law_done" s_law_done f fd) (T : LwTx K mg) (dHolds : Dn P w K mg base 1 "_law_holds" ["_law_row", "_law_i", "_law_n"] spHolds) : FnOk P w K mg base CX0 2 f fd ["_law_statement_here", "_law_i", "_law_n"] spLDone := by
  refine F.ok sc_law_done (fun vs H Q E h => ?_) (fun cdv A outer s H vs Q E hr h => ?_)
  · obtain ⟨Pd, v, g, i, n, rfl, _⟩ := h
    rfl
  · obtain ⟨Pd, v, m, i, n, rfl, hd, ok, k⟩ := h
    refine ⟨_, PSs.nox (pss_one (ps_ret (pe_cmpR op_eq (pe_callB (call_len_seqK (K := K) rfl) (by rfl) T.len PySem.boot_len (pa_cons (pe_lc (own := [("_law_row", 3)]) (g := gName 3) rfl sc_law_done.nd (pi_list (pe_ix (ix_tupK (K := K) rfl) (pv 0) pe_int (fun _ _ => rfl))) (blkOk_by (N := ["_law_statement_here", "_law_i", "_law_n", "_law_row"]) (sc := defScope s_law_done) (by decide +kernel)) (fun _ _ _ _ _ => (pg_name (i := 3) sc_law_done.nd rfl (.inl rfl))) (fun _ _ _ _ _ => (pts_one (pt_not (pt_val (pe_dn dHolds hr (pa_cons (pv 3) (pa_cons (pv 1) (pa_cons (pv 2) pa_nil)))))))) (fun _ _ _ _ _ => (pv 3))) pa_nil)) pe_int (nomark _)))), ?_⟩
    obtain ⟨t, q, tr, tg, xr, xg, rfl, ht, hq, hr', dr, hg, dg⟩ := dl_st hd
    obtain ⟨nmx, _, k0, k1, lr, lg, okr, okg⟩ := ok
    refine ⟨_, rfl, t, _, _, _, rfl, rfl, SqT.of ht, at3, tg, rfl, ⟨_, SqL.of hg⟩, fun D hD => ?_⟩
    refine lc_list (K := K) (xs := xg) (fun j Hc => ∃ vs, Hc D = some (.lst vs) ∧ vs.length = ((m.gds.take j).filter fun g => !gdV g i n).length ∧ Same H Hc) ⟨[], upd_same, rfl, Same.new _ (Same.refl H) hD⟩ (fun i Hc _ z => SqL.of (z.choose_spec.2.2 _ _ hg)) ?_ ?_
    · rintro j v Hc hv ⟨vs, eD, lv, sc⟩
      obtain ⟨g, eg, dv⟩ := (dg.to (.of sc)).map' hv
      have step := filt_snoc (p := fun g => !gdV g i n) eg
      have lim : ((m.gds.take j).filter fun g => !gdV g i n).length ≤ 3 := Nat.le_trans (List.length_filter_le _ _) (by rw [List.length_take]; omega)
      refine ⟨rfl, _, rfl, _, rfl, _, rfl, Pd, v, g, i, n, rfl, dv, okg g (List.mem_of_getElem? eg), _, rfl, ite2 (fun z => ?_) (fun z => ?_)⟩
      · rw [if_pos z] at step
        refine ⟨_, rfl, vs, eD, sz1l _ (by omega), vs ++ [v], upd_same, ?_, fun b o e => ?_⟩
        · rw [step, List.length_append, List.length_append, lv]
          rfl
        · rw [upd_ne (ne_of_none e hD)]
          exact sc b o e
      · rw [if_neg z, List.append_nil] at step
        rw [step]
        exact ⟨vs, eD, lv, sc⟩
    · rintro Hc ⟨vs, eD, lv, sc⟩
      have lx : xg.length = m.gds.length := by rw [dg.len, List.length_map]
      rw [lx, List.take_length] at lv
      refine ⟨D, vs, rfl, .inl (SqL.of eD), rfl, ?_⟩
      have e : decide (V.int (vs.length : Int) = V.int 0) = stDone m i n := by
        rw [lv]
        unfold stDone
        rw [Bool.eq_iff_iff, decide_eq_true_eq, List.all_eq_true]
        constructor
        · intro z g hg
          have z2 : ((m.gds.filter fun g => !gdV g i n).length : Int) = 0 := V.int.inj z
          have z3 : m.gds.filter (fun g => !gdV g i n) = [] := List.eq_nil_of_length_eq_zero (by omega)
          have := List.filter_eq_nil_iff.mp z3 g hg
          cases hv : gdV g i n with
          | true => rfl
          | false =>
            rw [hv] at this
            exact absurd rfl this
        · intro z
          have z3 : m.gds.filter (fun g => !gdV g i n) = [] := List.filter_eq_nil_iff.mpr fun g hg => by rw [z g hg]; decide
          rw [z3]
          rfl
      rw [e]
      exact k Hc sc
theorem sc_law_counters : FnScope ["_law_loop_here", "_law_n", "_law_found", "_law_k"] ["_law_loop_here", "_law_n"] (defScope s_law_counters) := ⟨rfl, rfl, rfl, by decide +kernel, rfl, by decide +kernel, by decide +kernel⟩
theorem ok_counters {f : Addr} {fd : FuncData} (F : FnP K "_law_counters" s_law_counters f fd) (T : LwTx K mg) (dLLeast : Dn P w K mg base 1 "_law_least" ["_law_loop_here", "_law_n"] spLLeast) (dLTurns : Dn P w K mg base 2 "_law_turns" ["_law_loop_here", "_law_n"] spLTurns) : FnOk P w K mg base CX0 3 f fd ["_law_loop_here", "_law_n"] spCounters := by
  refine F.ok sc_law_counters (fun vs H Q E h => ?_) (fun cdv A outer s H vs Q E hr h => ?_)
  · obtain ⟨Pd, v, l, n, rfl, _⟩ := h
    rfl
  · obtain ⟨Pd, v, l, n, rfl, hd, ok, few, k⟩ := h
    refine ⟨_, PSs.nox (pss_cons (ps_setLc (i := 2) (own := [("_law_k", 3)]) (g := gName 3) (tt := tYes) rfl sc_law_counters.nd rfl rfl (sw_true rfl rfl rfl (by decide +kernel)) (pi_range1 (by rfl) T.range (pa_cons (pe_dn dLTurns hr (pa_cons (pv 0) (pa_cons (pv 1) pa_nil))) pa_nil)) (blkOk_by (N := ["_law_loop_here", "_law_n", "_law_found", "_law_k"]) (sc := defScope s_law_counters) (by decide +kernel)) (fun _ _ _ _ _ => (pg_name (i := 3) sc_law_counters.nd rfl (.inl rfl))) (fun _ _ _ _ _ => pts_nil) (fun _ _ _ _ _ => (pe_op op_add (pe_dn dLLeast hr (pa_cons (pv 0) (pa_cons (pv 1) pa_nil))) (pe_op op_mul (pe_ix (ix_tupK (K := K) rfl) (pv 0) pe_int (fun _ _ => rfl)) (pv 3)))))
      (pss_one (ps_ret (pe_ifExp (pt_val (pe_ix (ix_tupK (K := K) rfl) (pv 0) pe_int (fun _ _ => rfl))) (pe_revL (pv 2)) (pv 2))))), ?_⟩
    obtain ⟨r, t1, t2, ts, xs, rfl, h1, h2, h3, _, _⟩ := dl_lp hd
    have ok' := ok
    obtain ⟨a0, a1, c0, c1, d0, d1, x0, x1, z0, z1, u0, u1, S0, S1, _⟩ := ok
    have N0 := lpN_0 l n
    obtain ⟨m, hm⟩ : ∃ m : Nat, lpN l n = (m : Int) := ⟨(lpN l n).toNat, by omega⟩
    refine ⟨_, rfl, _, rfl, Pd, _, l, n, rfl, hd, ok', (m : Int), congrArg (fun z => [V.int z]) hm, by omega, by omega, ?_⟩
    rw [Int.toNat_natCast]
    intro D hD
    refine lc_range (lo := 0) (n := m) (fun i Hc => Hc D = some (.lst (((List.range i).map fun (j : Nat) => lpL l n + (j : Int) * l.S).map V.int)) ∧ Same H Hc) ⟨upd_same, Same.new _ (Same.refl H) hD⟩ ?_ ?_
    · rintro i Hc hi ⟨eD, sc⟩
      refine ⟨rfl, yes_of ?_⟩
      refine ⟨_, rfl, _, rfl, Pd, _, l, n, rfl, hd.same sc, ok', _, rfl, r, _, _, _, rfl, rfl, SqT.of (sc _ _ h1), at2, _, rfl, _, _, rfl, rfl, .inl ⟨by omega, by omega⟩, _, _, rfl, rfl, _, eD, sz1m _ (by rw [List.length_map, List.length_map, List.length_range]; omega), ?_, fun b o e => ?_⟩
      · rw [upd_same, List.range_succ, List.map_append, List.map_append]
        show some (HO.lst (_ ++ [V.int (lpL l n + l.S * (0 + (i : Int)))])) = some (HO.lst (_ ++ [V.int (lpL l n + (i : Int) * l.S)]))
        rw [Int.zero_add, Int.mul_comm]
      · rw [upd_ne (ne_of_none e hD)]
        exact sc _ _ e
    · rintro Hc ⟨eD, sc⟩
      refine normG (σ' := [some (.ref r), some (.int n), some (.ref D), none]) rfl ?_
      try dsimp only
      have el : (lpN l n).toNat = m := by omega
      refine ⟨_, rfl, r, _, _, _, rfl, rfl, SqT.of (sc _ _ h1), at3, ?_⟩
      cases hdn : l.dn
      · refine ⟨_, rfl, iteF ⟨_, rfl, k D Hc sc hD ?_⟩⟩
        rw [eD, due_up]
        unfold lpCs
        rw [hdn, el]
      · refine ⟨_, rfl, iteT ⟨_, rfl, D, _, rfl, SqL.of eD, fun p hp => k p _ (Same.new _ sc hp) (Gr.new (Gr.of sc) hp) ?_⟩⟩
        rw [upd_same, ← List.map_reverse, due_dn]
        unfold lpCs
        rw [hdn, el]
theorem sc_law_works : FnScope ["_law_rows", "_law_n", "_law_found", "_law_at", "_law_i", "_law_k"] ["_law_rows", "_law_n"] (defScope s_law_works) := ⟨rfl, rfl, rfl, by decide +kernel, rfl, by decide +kernel, by decide +kernel⟩
theorem ok_works {f : Addr} {fd : FuncData} (F : FnP K "_law_works" s_law_works f fd) (T : LwTx K mg) (dCounters : Dn P w K mg base 3 "_law_counters" ["_law_loop_here", "_law_n"] spCounters) (dLDone : Dn P w K mg base 2 "_law_done" ["_law_statement_here", "_law_i", "_law_n"] spLDone) :
    FnOk P w K mg base CX0 4 f fd ["_law_rows", "_law_n"] spWorks := by
  refine F.ok sc_law_works (fun vs H Q E h => ?_) (fun cdv A outer s H vs Q E hr h => ?_)
  · obtain ⟨Pd, r, xs, ls, n, rfl, _⟩ := h
    rfl
  · obtain ⟨Pd, r, xs, ls, n, rfl, hr0, ds, l6, ok, few, k⟩ := h
    refine ⟨_, PSs.nox (pss_cons (ps_set (i := 2) sc_law_works.nd rfl (Or.inl rfl) (pe_lst pa_nil))
      (pss_cons (ps_for PassesOwn.never rfl (pi_range1 (by rfl) T.range (pa_cons (pe_callB (call_len_seqK (K := K) rfl) (by rfl) T.len PySem.boot_len (pa_cons (pv 0) pa_nil)) pa_nil)) (pg_name (i := 3) sc_law_works.nd rfl (.inl rfl)) (pss_one (ps_for PassesOwn.never rfl (pi_list (pe_dn dCounters hr (pa_cons (pe_ix ix_list (pv 0) (pv 3) (fun _ _ => rfl)) (pa_cons (pv 1) pa_nil)))) (pg_name (i := 4) sc_law_works.nd rfl (.inl rfl)) (pss_one (ps_for PassesOwn.never rfl (pi_range1 (by rfl) T.range (pa_cons (pe_callB (call_len_seqK (K := K) rfl) (by rfl) T.len PySem.boot_len (pa_cons (pe_ix (ix_tupK (K := K) rfl) (pe_ix ix_list (pv 0) (pv 3) (fun _ _ => rfl)) pe_int (fun _ _ => rfl)) pa_nil)) pa_nil)) (pg_name (i := 5) sc_law_works.nd rfl (.inl rfl)) (pss_one (ps_if (pt_val (pe_dn dLDone hr (pa_cons (pe_ix ix_list (pe_ix (ix_tupK (K := K) rfl) (pe_ix ix_list (pv 0) (pv 3) (fun _ _ => rfl)) pe_int (fun _ _ => rfl)) (pv 5) (fun _ _ => rfl)) (pa_cons (pv 4) (pa_cons (pv 1) pa_nil))))) (pss_one (ps_expr (pe_bm PySem.F.plainAttrs_list PySem.F.slot_list_append PySem.F.type_list_append mt_append (pv 2) (pa_cons (pe_tup (pa_cons (pv 3) (pa_cons (pv 4) (pa_cons (pv 5) pa_nil)))) pa_nil)))) pss_nil)))))))
      (pss_one (ps_ret (pv 2))))), ?_⟩
    refine ⟨(by decide), fun D hD => ?_⟩
    have nrD : r ≠ D := ne_of_none hr0 hD
    refine normG (σ' := [some (.ref r), some (.int n), some (.ref D), none, none, none]) rfl ?_
    try dsimp only
    have lxs : xs.length = ls.length := by rw [ds.len, List.length_map]
    have sD := Same.new (.lst []) (Same.refl H) hD
    have wlen : ∀ m, (wA ls n m).length ≤ m * 15000 := by
      intro m
      induction m with
      | zero => simp [wA]
      | succ m ih =>
        cases h : ls[m]? with
        | some l =>
          rw [wA_succ h, List.length_append, Nat.succ_mul]
          have h1 := wC_len (l := l) (n := n) (j := m) (m := (lpCs l n).length)
          have h2 := lpCs_n l n
          have h3 := (lpOk_st (ok l (List.mem_of_getElem? h))).1
          have h4 := few l (List.mem_of_getElem? h)
          have h5 : (lpCs l n).length * l.sts.length ≤ 5000 * 3 := Nat.mul_le_mul (by omega) h3
          omega
        | none =>
          have e : wA ls n (m + 1) = wA ls n m := by
            unfold wA
            rw [List.range_succ, List.flatMap_append]
            simp [h]
          rw [e, Nat.succ_mul]
          omega
    refine ⟨_, rfl, r, _, rfl, .inl (SqL.of (sD _ _ hr0)), (xs.length : Int), rfl, by omega, by omega, ?_⟩
    rw [Int.toNat_natCast]
    refine for_range (lo := 0) (n := xs.length) (fun i σ H' => ∃ (v3 v4 v5 : Option V) (ws : List V), σ = [some (.ref r), some (.int n), some (.ref D), v3, v4, v5] ∧ H' D = some (.lst ws) ∧ DTs H' ws ((wA ls n i).map wD) ∧ Same H H') ⟨_, _, _, [], rfl, upd_same, .nil, sD⟩ ?_ ?_
    · rintro i σ H1 hi ⟨v3, v4, v5, ws, rfl, eD, dw, s1⟩
      obtain ⟨l, hl⟩ : ∃ l, ls[i]? = some l := ⟨_, List.getElem?_eq_getElem (by omega)⟩
      have okl := ok l (List.mem_of_getElem? hl)
      have fewl := few l (List.mem_of_getElem? hl)
      obtain ⟨n3, okS⟩ := lpOk_st okl
      obtain ⟨v, hv, dv⟩ := DLs.get i _ ds (by rw [List.getElem?_map, hl]; rfl)
      have atr : atI xs (0 + (i : Int)) = some v := by rw [Int.zero_add]; exact atI_nat hv
      refine normG (σ' := [some (.ref r), some (.int n), some (.ref D), some (.int (0 + (i : Int))), v4, v5]) rfl ?_
      refine ⟨_, rfl, _, rfl, r, _, _, _, rfl, rfl, SqL.of (s1 _ _ hr0), atr, _, rfl, Pd, v, l, n, rfl, dv.same s1, okl, fewl, fun L H2 s2 hL eL => ?_⟩
      have nLD : L ≠ D := fun z => by
        rw [z, eD] at hL
        cases hL
      have eD2 := s2 _ _ eD
      refine ⟨L, rfl, ⟨_, SqL.of eL⟩, ?_⟩
      refine for_list (K := K) (xs := (lpCs l n).map V.int) (fun j σ H' => ∃ (v4 v5 : Option V) (ws : List V), σ = [some (.ref r), some (.int n), some (.ref D), some (.int (0 + (i : Int))), v4, v5] ∧ H' D = some (.lst ws) ∧ DTs H' ws ((wA ls n i ++ wC l n i j).map wD) ∧ Same H H' ∧ H' L = some (.lst ((lpCs l n).map V.int)))
        ⟨_, _, ws, rfl, eD2, by
          have e : wA ls n i ++ wC l n i 0 = wA ls n i := by simp [wC]
          rw [e]
          exact dw.to (.of s2), s1.trans s2, eL⟩ (fun j σ' H' _ z => SqL.of z.choose_spec.choose_spec.choose_spec.2.2.2.2) ?_ ?_
      · rintro j cv σ H3 hcv ⟨v4, v5, ws, rfl, eD3, dw3, s3, eL3⟩
        rw [List.getElem?_map] at hcv
        obtain ⟨c, hc, rfl⟩ := Option.map_eq_some_iff.mp hcv
        refine normG (σ' := [some (.ref r), some (.int n), some (.ref D), some (.int (0 + (i : Int))), some (.int c), v5]) rfl ?_
        obtain ⟨t, q1, q2, ts, ys, rfl, ht0, _, _, hts0, dst0⟩ := dl_lp dv
        have lys : ys.length = l.sts.length := by rw [dst0.len, List.length_map]
        have ht := s3 _ _ ht0
        have hts := s3 _ _ hts0
        refine ⟨_, rfl, _, rfl, r, _, _, _, rfl, rfl, SqL.of (s3 _ _ hr0), atr, t, _, _, _, rfl, rfl, SqT.of ht, at4, ts, _, rfl, .inl (SqL.of hts), (ys.length : Int), rfl, by omega, by omega, ?_⟩
        rw [Int.toNat_natCast]
        refine for_range (lo := 0) (n := ys.length) (fun q σ H' => ∃ (v5 : Option V) (ws : List V), σ = [some (.ref r), some (.int n), some (.ref D), some (.int (0 + (i : Int))), some (.int c), v5] ∧ H' D = some (.lst ws) ∧ DTs H' ws (((wA ls n i ++ wC l n i j) ++ wS l n i c q).map wD) ∧ Same H H' ∧ H' L = some (.lst ((lpCs l n).map V.int)))
          ⟨_, ws, rfl, eD3, by
            have e : (wA ls n i ++ wC l n i j) ++ wS l n i c 0 = wA ls n i ++ wC l n i j := by simp [wS]
            rw [e]
            exact dw3, s3, eL3⟩ ?_ ?_
        · rintro q σ H4 hq ⟨v5, ws, rfl, eD4, dw4, s4, eL4⟩
          refine normG (σ' := [some (.ref r), some (.int n), some (.ref D), some (.int (0 + (i : Int))), some (.int c), some (.int (0 + (q : Int)))]) rfl ?_
          obtain ⟨s, hs⟩ : ∃ s, l.sts[q]? = some s := ⟨_, List.getElem?_eq_getElem (by omega)⟩
          obtain ⟨u, hu, du⟩ := DLs.get q _ dst0 (by rw [List.getElem?_map, hs]; rfl)
          have atu : atI ys (0 + (q : Int)) = some u := by rw [Int.zero_add]; exact atI_nat hu
          have oks := okS s (List.mem_of_getElem? hs)
          have ht4 := s4 _ _ ht0
          have hts4 := s4 _ _ hts0
          refine ⟨_, rfl, _, rfl, r, _, _, _, rfl, rfl, SqL.of (s4 _ _ hr0), atr, t, _, _, _, rfl, rfl, SqT.of ht4, at4, _, rfl, ts, _, _, _, rfl, rfl, SqL.of hts4, atu, _, rfl, _, rfl, Pd, u, s, c, n, rfl, du.same s4, oks, fun Hc sc => ?_⟩
          have eDc := sc _ _ eD4
          have e1 : w1 l n i c q = if stDone s c n = true then [((i : Int), c, (q : Int))] else [] := by
            unfold w1
            rw [hs]
          refine ⟨_, rfl, ?_⟩
          by_cases hd : stDone s c n = true
          · refine if_yes hd ?_
            refine ⟨_, rfl, .inl ⟨rfl, _, SqL.of eDc⟩, _, rfl, _, rfl, _, rfl, sz3, fun TT hTT => ?_⟩
            have sT := Same.new (.tup [.int (0 + (i : Int)), .int c, .int (0 + (q : Int))]) (Same.refl Hc) hTT
            have eDT := sT _ _ eDc
            have bnd : ws.length < sizeLine := sz1m _ (by
              rw [dw4.len, List.length_map, List.length_append, List.length_append]
              have h1 := wlen i
              have h2 := wC_len (l := l) (n := n) (j := i) (m := j)
              have h3 := wS_len (l := l) (n := n) (j := i) (c := c) (m := q)
              have h4 : j < (lpCs l n).length := (List.getElem?_eq_some_iff.mp hc).1
              have h5 := lpCs_n l n
              have h6 : j * l.sts.length ≤ 5000 * 3 := Nat.mul_le_mul (by omega) n3
              omega)
            refine ⟨D, _, _, rfl, rfl, eDT, bnd, ?_⟩
            have tsU : TSame (upd Hc TT (.tup [.int (0 + (i : Int)), .int c, .int (0 + (q : Int))])) (upd (upd Hc TT (.tup [.int (0 + (i : Int)), .int c, .int (0 + (q : Int))])) D (.lst (ws ++ [.ref TT]))) := .updL eDT
            refine ⟨_, ws ++ [.ref TT], rfl, upd_same, ?_, fun b o e => ?_, ?_⟩
            · rw [wS_succ, e1, if_pos hd, ← List.append_assoc]
              refine ((dw4.to (.of (sc.trans sT))).to tsU).snoc ?_
              rw [show wD ((i : Int), c, (q : Int)) = .tuple [.int (0 + (i : Int)), .int c, .int (0 + (q : Int))] by unfold wD; rw [Int.zero_add, Int.zero_add]]
              exact dt3 (tsU _ _ upd_same)
            · rw [upd_ne (ne_of_none e hD)]
              exact sT _ _ (sc _ _ (s4 b o e))
            · rw [upd_ne nLD]
              exact sT _ _ (sc _ _ eL4)
          · refine if_no (Bool.eq_false_iff.mpr hd) ?_
            refine ⟨_, ws, rfl, eDc, ?_, s4.trans sc, sc _ _ eL4⟩
            rw [wS_succ, e1, if_neg hd, List.append_nil]
            exact dw4.to (.of sc)
        · rintro σ H4 ⟨v5, ws, rfl, eD4, dw4, s4, eL4⟩
          refine ⟨_, _, ws, rfl, eD4, ?_, s4, eL4⟩
          rw [wC_succ hc, ← List.append_assoc, ← lys]
          exact dw4
      · rintro σ H3 ⟨v4, v5, ws, rfl, eD3, dw3, s3, eL3⟩
        refine ⟨_, _, _, ws, rfl, eD3, ?_, s3⟩
        rw [List.length_map] at dw3
        rw [wA_succ hl]
        exact dw3
    · rintro σ H1 ⟨v3, v4, v5, ws, rfl, eD, dw, s1⟩
      rw [lxs] at dw
      exact ⟨_, rfl, k D H1 ws s1 hD eD dw⟩
end
end K35
set_option maxHeartbeats 4000000
namespace K35
open PySem PySem.Spec PyProof.Rows L2 Z
theorem un_next {D : Ends} {σ : L2.St} {H : Hp} (h : D.nx σ H) : tNext D σ H := h
theorem call_isi2 {X : Cx} {K : PySem.W.Frag} (hK : X.K = K) : CallR X (.builtin "isinstance") (rIsi K) := hK ▸ call_isi
theorem ktt {K : PySem.W.Frag} : PySem.W.kitOne K (.type "tuple") (.type "tuple") = some true := kit_ty (by decide +kernel)
def spLTurnOf : Sp := fun vs H Q _ => ∃ (Pd : Addr → Prop) (r tw : Addr) (xs : List V) (ls : List LpM) (n : Int) (w : W3) (k : Nat), vs = [.ref r, .int n, .ref tw] ∧ H r = some (.lst xs) ∧ DLs Pd H xs (ls.map lpR) ∧ (∀ l ∈ ls, LpOk l) ∧ H tw = some (.tup [.int w.1, .int w.2.1, .int w.2.2]) ∧ (works ls n)[k]? = some w ∧
  ∀ (a : Nat) (l : LpM) H', w.1 = (a : Int) → ls[a]? = some l → Same H H' → Q (.int ((w.2.1 - lpL l n).fdiv l.S)) H'
def spIsNum : Sp := fun vs H Q _ => ∃ i : Int, vs = [.int i] ∧ Q (.bl true) H
section
variable {P : Program} {w : World} {K : PySem.W.Frag} {mg : Str → Option Value} {base : Heap}
theorem sc_law_is_number : FnScope ["_law_value"] ["_law_value"] (defScope s_law_is_number) := ⟨rfl, rfl, rfl, by decide +kernel, rfl, by decide +kernel, by decide +kernel⟩
theorem ok_isNum {f : Addr} {fd : FuncData} (F : FnP K "_law_is_number" s_law_is_number f fd) (T : LwTx K mg) : FnOk P w K mg base CX0 1 f fd ["_law_value"] spIsNum := by
  refine F.ok sc_law_is_number (fun vs H Q E h => ?_) (fun cdv A outer s H vs Q E hr h => ?_)
  · obtain ⟨i, rfl, _⟩ := h
    rfl
  · obtain ⟨i, rfl, k⟩ := h
    refine ⟨_, PSs.nox (pss_one (ps_ret (pe_and (pe_callB call_isi (by rfl) T.isi (by decide +kernel) (pa_cons (pv 0) (pa_cons (pe_bltn (v := .ty "int") (by rfl) T.int (by decide +kernel) rfl) pa_nil))) (pe_one (pe_not (pe_callB call_isi (by rfl) T.isi (by decide +kernel) (pa_cons (pv 0) (pa_cons (pe_bltn (v := .ty "bool") (by rfl) T.bool (by decide +kernel) rfl) pa_nil)))))))), ?_⟩
    refine ⟨_, rfl, _, _, _, _, _, rfl, .ty _, .base (.int i), kii, _, rfl, iteT ?_⟩
    exact ⟨_, rfl, _, _, _, _, _, rfl, .ty _, .base (.int i), kib, _, rfl, k⟩
theorem sc_law_turn_of : FnScope ["_law_rows", "_law_n", "_law_work", "_law_one", "_law_loop_here", "_law_beyond"] ["_law_rows", "_law_n", "_law_work"] (defScope s_law_turn_of) := ⟨rfl, rfl, rfl, by decide +kernel, rfl, by decide +kernel, by decide +kernel⟩
theorem ok_lturnOf {f : Addr} {fd : FuncData} (F : FnP K "_law_turn_of" s_law_turn_of f fd) (T : LwTx K mg) (U : Nb mg) (dLLeast : Dn P w K mg base 1 "_law_least" ["_law_loop_here", "_law_n"] spLLeast) (dLTurns : Dn P w K mg base 2 "_law_turns" ["_law_loop_here", "_law_n"] spLTurns) (dLDone : Dn P w K mg base 2 "_law_done" ["_law_statement_here", "_law_i", "_law_n"] spLDone) :
    FnOk P w K mg base CX0 3 f fd ["_law_rows", "_law_n", "_law_work"] spLTurnOf := by
  refine F.ok sc_law_turn_of (fun vs H Q E h => ?_) (fun cdv A outer s H vs Q E hr h => ?_)
  · obtain ⟨Pd, r, tw, xs, ls, n, w, k, rfl, _⟩ := h
    rfl
  · obtain ⟨Pd, r, tw, xs, ls, n, w, k, rfl, hr0, ds, ok, htw, hk, q⟩ := h
    refine ⟨_, PSs.nox (pss_cons (ps_if (PW.pt (pw_or (pt_not (pt_val (pe_callB (call_isi2 (K := K) rfl) (by rfl) T.isi (by decide +kernel) (pa_cons (pv 2) (pa_cons (pe_bltn (v := .ty "tuple") (by rfl) U.tuple (by decide +kernel) rfl) pa_nil))))) (pw_or1 (pt_cmpR op_ne (pe_callB (call_len_seqK (K := K) rfl) (by rfl) T.len PySem.boot_len (pa_cons (pv 2) pa_nil)) pe_int (nomark _))))) (pss_one (ps_ret pe_non)) pss_nil)
      (pss_cons (ps_if (pt_cmpR op_gt (pe_callB (call_len_seqK (K := K) rfl) (by rfl) T.len PySem.boot_len (pa_cons (pe_lc (own := [("_law_one", 3)]) (g := gName 3) rfl sc_law_turn_of.nd (pi_tup (pv 2)) (blkOk_by (N := ["_law_rows", "_law_n", "_law_work", "_law_one", "_law_loop_here", "_law_beyond"]) (sc := defScope s_law_turn_of) (by decide +kernel)) (fun _ _ _ _ _ => (pg_name (i := 3) sc_law_turn_of.nd rfl (.inl rfl))) (fun _ _ _ _ _ => (pts_one (PW.pt (pw_or (pt_not (pt_val (pe_callB (call_isi2 (K := K) rfl) (by rfl) T.isi (by decide +kernel) (pa_cons (pv 3) (pa_cons (pe_bltn (v := .ty "int") (by rfl) T.int (by decide +kernel) rfl) pa_nil))))) (pw_or1 (pt_val (pe_callB (call_isi2 (K := K) rfl) (by rfl) T.isi (by decide +kernel) (pa_cons (pv 3) (pa_cons (pe_bltn (v := .ty "bool") (by rfl) T.bool (by decide +kernel) rfl) pa_nil))))))))) (fun _ _ _ _ _ => (pv 3))) pa_nil)) pe_int (nomark _)) (pss_one (ps_ret pe_non)) pss_nil)
      (pss_cons (ps_if (pt_not (pt_chain op_le op_lt pe_int (pe_ix (ix_tupK (K := K) rfl) (pv 2) pe_int (fun _ _ => rfl)) (pe_callB (call_len_seqK (K := K) rfl) (by rfl) T.len PySem.boot_len (pa_cons (pv 0) pa_nil)))) (pss_one (ps_ret pe_non)) pss_nil)
      (pss_cons (ps_set (i := 4) sc_law_turn_of.nd rfl (Or.inl rfl) (pe_ix ix_list (pv 0) (pe_ix (ix_tupK (K := K) rfl) (pv 2) pe_int (fun _ _ => rfl)) (fun _ _ => rfl)))
      (pss_cons (ps_set (i := 5) sc_law_turn_of.nd rfl (Or.inl rfl) (pe_op op_sub (pe_ix (ix_tupK (K := K) rfl) (pv 2) pe_int (fun _ _ => rfl)) (pe_dn dLLeast hr (pa_cons (pv 4) (pa_cons (pv 1) pa_nil)))))
      (pss_cons (ps_if (PW.pt (pw_or (pt_cmpR op_lt (pv 5) pe_int (nomark _)) (pw_or (pt_cmpR op_ne (pe_op op_modN (pe_callTy call_int1 (by rfl) T.int (by decide +kernel) (pa_cons (pv 5) pa_nil)) (pe_ix (ix_tupK (K := K) rfl) (pv 4) pe_int (fun _ _ => rfl))) pe_int (nomark _)) (pw_or1 (pt_cmpR op_ge (pe_op op_fdivN (pv 5) (pe_ix (ix_tupK (K := K) rfl) (pv 4) pe_int (fun _ _ => rfl))) (pe_dn dLTurns hr (pa_cons (pv 4) (pa_cons (pv 1) pa_nil))) (nomark _)))))) (pss_one (ps_ret pe_non)) pss_nil)
      (pss_cons (ps_if (PW.pt (pw_or (pt_not (pt_chain op_le op_lt pe_int (pe_ix (ix_tupK (K := K) rfl) (pv 2) pe_int (fun _ _ => rfl)) (pe_callB (call_len_seqK (K := K) rfl) (by rfl) T.len PySem.boot_len (pa_cons (pe_ix (ix_tupK (K := K) rfl) (pv 4) pe_int (fun _ _ => rfl)) pa_nil)))) (pw_or1 (pt_not (pt_val (pe_dn dLDone hr (pa_cons (pe_ix ix_list (pe_ix (ix_tupK (K := K) rfl) (pv 4) pe_int (fun _ _ => rfl)) (pe_ix (ix_tupK (K := K) rfl) (pv 2) pe_int (fun _ _ => rfl)) (fun _ _ => rfl)) (pa_cons (pe_ix (ix_tupK (K := K) rfl) (pv 2) pe_int (fun _ _ => rfl)) (pa_cons (pv 1) pa_nil))))))))) (pss_one (ps_ret pe_non)) pss_nil)
      (pss_one (ps_ret (pe_op op_fdivN (pv 5) (pe_ix (ix_tupK (K := K) rfl) (pv 4) pe_int (fun _ _ => rfl)))))))))))), ?_⟩
    obtain ⟨a, l, t, i, s', hl, ht, hdn, ek, rfl⟩ := works_pos ok hk
    have okl := ok l (List.mem_of_getElem? hl)
    obtain ⟨n3, okS⟩ := lpOk_st okl
    obtain ⟨_, sm, hs, hd⟩ := dn_turn (List.mem_of_getElem? hdn) okS
    have S0 := S_ok okl
    have al := (List.getElem?_eq_some_iff.mp hl).1
    have sl := (List.getElem?_eq_some_iff.mp hs).1
    have lxs : xs.length = ls.length := by rw [ds.len, List.length_map]
    dsimp only at htw q
    refine ⟨_, rfl, _, _, _, _, _, rfl, .ty _, .base (.tup htw), ktt, _, rfl, if_no rfl ?_⟩
    refine ⟨_, rfl, tw, _, rfl, .inr (SqT.of htw), rfl, _, rfl, if_no rfl ?_⟩
    have s0 : Same H H := Same.refl H
    refine ⟨_, rfl, tw, rfl, ⟨_, SqT.of htw⟩, fun D hD => ?_⟩
    refine lc_tup (K := K) (xs := [.int (a : Int), .int (ctr l n (t : Int)), .int (s' : Int)]) (fun j Hc => Hc D = some (.lst []) ∧ Same H Hc) ⟨upd_same, Same.new _ (Same.refl H) hD⟩ (fun j Hc _ z => SqT.of (z.2 _ _ htw)) ?_ ?_
    · rintro j v Hc hv ⟨eD, sc⟩
      have hi : ∃ i, v = .int i := by
        match j, hv with
        | 0, hv => exact ⟨_, (Option.some.inj hv).symm⟩
        | 1, hv => exact ⟨_, (Option.some.inj hv).symm⟩
        | 2, hv => exact ⟨_, (Option.some.inj hv).symm⟩
        | _ + 3, hv => exact absurd hv (fun z => by cases z)
      obtain ⟨i', rfl⟩ := hi
      exact ⟨rfl, _, rfl, _, _, _, _, _, rfl, .ty _, .base (.int i'), kii, _, rfl, if_no rfl ⟨_, rfl, _, _, _, _, _, rfl, .ty _, .base (.int i'), kib, _, rfl, if_no rfl ⟨eD, sc⟩⟩⟩
    rintro H1 ⟨eD, s1⟩
    refine ⟨D, [], rfl, .inl (SqL.of eD), _, _, rfl, rfl, _, rfl, if_no rfl ?_⟩
    have htw1 := s1 _ _ htw
    have hr1 := s1 _ _ hr0
    refine un_next ?_
    try dsimp only
    refine chainLL (a := 0) (i := (a : Int)) (b := (xs.length : Int)) (fun R z => z) (fun R z => ⟨_, rfl, tw, _, _, _, rfl, rfl, SqT.of htw1, at0, z⟩) (fun R z => ⟨_, rfl, r, xs, rfl, .inl (SqL.of hr1), z⟩) ?_
    rw [decide_eq_true (show (0 : Int) ≤ (a : Int) ∧ (a : Int) < (xs.length : Int) by omega)]
    refine if_no rfl ?_
    obtain ⟨v, hv, dv⟩ := DLs.get a _ ds (by rw [List.getElem?_map, hl]; rfl)
    have dv1 := dv.same s1
    refine ⟨_, rfl, _, rfl, tw, _, _, _, rfl, rfl, SqT.of htw1, at0, r, _, _, _, rfl, rfl, SqL.of hr1, atI_nat hv, ?_⟩
    refine normG (σ' := [some (.ref r), some (.int n), some (.ref tw), none, some v, none]) rfl ?_
    try dsimp only
    refine ⟨_, rfl, tw, _, _, _, rfl, rfl, SqT.of htw1, at1, _, rfl, _, rfl, Pd, v, l, n, rfl, dv1, okl, _, _, rfl, rfl, ?_⟩
    refine normG (σ' := [some (.ref r), some (.int n), some (.ref tw), none, some v, some (.int (ctr l n (t : Int) - lpL l n))]) rfl ?_
    try dsimp only
    obtain ⟨y, hy, y0, y1⟩ : ∃ y : Int, ctr l n (t : Int) - lpL l n = y * l.S ∧ 0 ≤ y ∧ y < lpN l n := by
      refine ⟨if l.dn = true then lpN l n - 1 - (t : Int) else (t : Int), ?_, ?_, ?_⟩
      · unfold ctr
        omega
      · split <;> omega
      · split <;> omega
    have b0 : 0 ≤ ctr l n (t : Int) - lpL l n := by
      rw [hy]
      exact Int.mul_nonneg y0 (by omega)
    have bm : (ctr l n (t : Int) - lpL l n).fmod l.S = 0 := by
      rw [Int.fmod_eq_emod_of_nonneg _ (by omega), hy, Int.mul_emod_left]
    have bd : (ctr l n (t : Int) - lpL l n).fdiv l.S = y := by
      rw [Int.fdiv_eq_ediv_of_nonneg _ (by omega), hy, Int.mul_ediv_cancel _ (by omega)]
    have S16 : l.S ≤ 16 := by
      obtain ⟨_, _, _, _, _, _, _, _, _, _, _, _, _, S1, _⟩ := okl
      exact S1
    obtain ⟨tl, q1, q2, ts, ys, rfl, htl, _, _, hts, dst⟩ := dl_lp dv1
    have lys : ys.length = l.sts.length := by rw [dst.len, List.length_map]
    obtain ⟨u, hu, du⟩ := DLs.get s' _ dst (by rw [List.getElem?_map, hs]; rfl)
    refine ⟨_, rfl, _, _, rfl, rfl, _, rfl, if_no (decide_eq_false (by omega)) ?_⟩
    refine ⟨_, rfl, .inl ⟨_, rfl, _, rfl, tl, _, _, _, rfl, rfl, SqT.of htl, at2, _, _, rfl, rfl, by omega, rfl, _, rfl, if_no (show (!decide (V.int ((ctr l n (t : Int) - lpL l n).fmod l.S) = V.int 0)) = false by rw [decide_eq_true (congrArg V.int bm)]; rfl) ?_⟩⟩
    refine ⟨_, rfl, _, rfl, tl, _, _, _, rfl, rfl, SqT.of htl, at2, _, _, rfl, rfl, ⟨by omega, by omega⟩, _, rfl, _, rfl, Pd, _, l, n, rfl, dv1, okl, _, _, rfl, rfl, _, rfl, if_no (decide_eq_false (by rw [bd]; omega)) ?_⟩
    refine un_next ?_
    try dsimp only
    refine chainLL (a := 0) (i := (s' : Int)) (b := (ys.length : Int)) (fun R z => z) (fun R z => ⟨_, rfl, tw, _, _, _, rfl, rfl, SqT.of htw1, at2, z⟩) (fun R z => ⟨_, rfl, tl, _, _, _, rfl, rfl, SqT.of htl, at4, ts, ys, rfl, .inl (SqL.of hts), z⟩) ?_
    rw [decide_eq_true (show (0 : Int) ≤ (s' : Int) ∧ (s' : Int) < (ys.length : Int) by omega)]
    refine if_no rfl ?_
    refine ⟨_, rfl, tl, _, _, _, rfl, rfl, SqT.of htl, at4, _, rfl, tw, _, _, _, rfl, rfl, SqT.of htw1, at2, ts, _, _, _, rfl, rfl, SqL.of hts, atI_nat hu, _, rfl, tw, _, _, _, rfl, rfl, SqT.of htw1, at1, _, rfl, Pd, u, sm, _, n, rfl, du, okS sm (List.mem_of_getElem? hs), fun H2 s2 => ?_⟩
    rw [hd]
    refine ⟨_, rfl, if_no rfl ?_⟩
    exact ⟨_, rfl, _, rfl, tl, _, _, _, rfl, rfl, SqT.of (s2 _ _ htl), at2, _, _, rfl, rfl, ⟨by omega, by omega⟩, q a l H2 rfl hl (s1.trans s2)⟩
end
end K35
set_option maxHeartbeats 4000000
namespace K35
open PySem PySem.Spec PyProof.Rows L2 Z
theorem decI {a b : Int} : decide (V.int a = V.int b) = decide (a = b) := decide_eq_decide.mpr ⟨V.int.inj, congrArg V.int⟩
theorem sz_ok {K : PySem.W.Frag} {H : Hp} {E : XK} {G : Int → Prop} {n : Int} (n0 : 0 ≤ n) (n1 : n ≤ TOP) (g : G n) : Sz K H (.int n) E G := .inr ⟨n, rfl, fun z => absurd ⟨n0, n1⟩ z, fun _ => g⟩
end K35
set_option maxHeartbeats 4000000
namespace K35
open PySem PySem.Spec PyProof.Rows L2 Z
structure RfTx (K : PySem.W.Frag) (mg : Str → Option Value) : Prop where
  EL : EC K mg "NoLoop" ["loop"]
  ES : EC K mg "NoStatement" ["loop", "statement"]
  EZ : EC K mg "BadSize" ["n"]
  EN : EC K mg "NoNumber" ["number"]
  EW : EC K mg "NoWork" ["work"]
  EF : EC K mg "TooFar" ["what", "limit"]
  xLL : PySem.W.exmOne K (.ref (He.ga K "NoLoop")) (.ref (He.ga K "NoLoop")) = some true
  xSL : PySem.W.exmOne K (.ref (He.ga K "NoStatement")) (.ref (He.ga K "NoLoop")) = some false
  xSS : PySem.W.exmOne K (.ref (He.ga K "NoStatement")) (.ref (He.ga K "NoStatement")) = some true
  xZL : PySem.W.exmOne K (.ref (He.ga K "BadSize")) (.ref (He.ga K "NoLoop")) = some false
  xZS : PySem.W.exmOne K (.ref (He.ga K "BadSize")) (.ref (He.ga K "NoStatement")) = some false
  xZZ : PySem.W.exmOne K (.ref (He.ga K "BadSize")) (.ref (He.ga K "BadSize")) = some true
  xNL : PySem.W.exmOne K (.ref (He.ga K "NoNumber")) (.ref (He.ga K "NoLoop")) = some false
  xNS : PySem.W.exmOne K (.ref (He.ga K "NoNumber")) (.ref (He.ga K "NoStatement")) = some false
  xNZ : PySem.W.exmOne K (.ref (He.ga K "NoNumber")) (.ref (He.ga K "BadSize")) = some false
  xNN : PySem.W.exmOne K (.ref (He.ga K "NoNumber")) (.ref (He.ga K "NoNumber")) = some true
  xWL : PySem.W.exmOne K (.ref (He.ga K "NoWork")) (.ref (He.ga K "NoLoop")) = some false
  xWS : PySem.W.exmOne K (.ref (He.ga K "NoWork")) (.ref (He.ga K "NoStatement")) = some false
  xWZ : PySem.W.exmOne K (.ref (He.ga K "NoWork")) (.ref (He.ga K "BadSize")) = some false
  xWN : PySem.W.exmOne K (.ref (He.ga K "NoWork")) (.ref (He.ga K "NoNumber")) = some false
  xWW : PySem.W.exmOne K (.ref (He.ga K "NoWork")) (.ref (He.ga K "NoWork")) = some true
theorem look1 {x : Str} {v : V} {r : List (Str × V)} : ((x, v) :: r).lookup x = some v := by simp [List.lookup_cons]
theorem lookLS {v y : V} : ([("statement", y), ("loop", v)] : List (Str × V)).lookup ("loop" : Str) = some v := by
  rw [List.lookup_cons, show ((("loop" : Str) == "statement") = false) by decide +kernel]
  exact look1
/-- an error that is told, with what it becomes -/
def RefE (K : PySem.W.Frag) (cls : Value) (d : Option Addr) (H : Hp) (Q : VK) : Prop := ∃ (x : Str) (fs : List Str) (vs : List V) (D : Addr), (x, fs) ∈ ([("NoLoop", ["loop"]), ("NoStatement", ["loop", "statement"]), ("BadSize", ["n"]), ("NoNumber", ["number"]), ("NoWork", ["work"])] : List (Str × List Str)) ∧
  cls = .ref (He.ga K x) ∧ d = some D ∧ H D = some (.xd (fs.zip vs).reverse) ∧ vs.length = fs.length ∧ ∀ t, H t = none → Q (.ref t) (upd H t (.tup (.str x :: vs)))
def TTref (K : PySem.W.Frag) : (XK → Hp → VK → Prop) → Hp → VK → Prop := fun tl H Q => ∀ (R : VK) (E : XK), (∀ v H', Q .non H' → R v H') → (∀ cls d H', RefE K cls d H' Q → E cls d H') → tl E H R
/-- the suite's only statement: what was handed is called -/
theorem lam_body {Y : Cx} {W : WX} {k : Nat} (hN : Y.N.length = k) {f c' : Addr} {a q : Str} {tl : XK → Hp → VK → Prop} {p1 p2 p3 : Pos}
    (act : ∀ (W2 : WX) (E : XK), Takes Y W2 → (∀ cls d σ' H', E cls d H' → W2 cls d σ' H') → PE Y (.Call (.Name a p1) [] [] p2) (fun σZ HZ Q => σZ[0]? = some (some (V.ref f)) ∧ HZ c' = some (LamX.CodeO c' q) ∧ tl E HZ Q)) (tk : Takes Y W) :
    PSs Y [.Expr (.Call (.Name a p1) [] [] p2) p3] (fun D σ H => ∃ E : XK, (∀ cls d σ' H', σ'.length = k → E cls d H' → W cls d σ' H') ∧ σ[0]? = some (some (V.ref f)) ∧ H c' = some (LamX.CodeO c' q) ∧ tl E H fun _ H' => D.nx σ H') := by
  refine ⟨fun pins s σ H D I h => ?_⟩
  obtain ⟨E, hE, h0, h1, h2⟩ := h
  have tk2 : Takes Y (fun cls d σ' H' => σ'.length = k → W cls d σ' H') := fun u s' ⟨a, B, sI, pn, σ', H', cls, d, e, J, r⟩ => by
    obtain ⟨nb, up, sky, na, os, ag, wq⟩ := r
    exact tk u s' ⟨a, B, sI, pn, σ', H', cls, d, e, J, nb, up, sky, na, os, ag, wq (J.len.trans hN)⟩
  exact (pss_one (ps_expr (act _ E tk2 fun cls d σ' H' z l => hE cls d σ' H' l z))).run pins s σ H D I ⟨h0, h1, h2⟩
theorem sc_law_refused : FnScope ["_law_action", "_law_found", "e"] ["_law_action"] (defScope s_law_refused) := ⟨rfl, rfl, rfl, by decide +kernel, rfl, by decide +kernel, by decide +kernel⟩
theorem ref_gives {X : Cx} {g : Addr} {cdg : Value} {q : Str} (R : RfTx X.K X.mg) : LamX.GivesTo X ["_law_action", "_law_found", "e"] "_law_refused" (defScope s_law_refused) g cdg (defBody s_law_refused) "_law_action" q (TTref X.K) := by
  intro f c' s H Q tl act hc h
  refine ⟨_, ((pss_cons (ps_set (i := 1) sc_law_refused.nd rfl (Or.inl rfl) pe_non)
      (pss_cons (ps_try_asMany rfl rfl sc_law_refused.nd takes0 (fun W pn xe tk _ => (lam_body (k := 3) rfl (f := f) (c' := c') (q := q) (tl := tl) (fun W2 E tk2 h2 => act W2 pn xe E _ _ tk2 h2) tk)) (Clauses.cons (i := 2) rfl rfl ⟨rfl, by decide, .inl R.EL.gC⟩ (fun a oe cls d pn hz hf => (pss_one (ps_set (i := 1) sc_law_refused.nd rfl (Or.inl rfl) (pe_tup (pa_cons pe_str (pa_cons (pe_xf R.EL.ex.xf (R.EL.na _ (by simp)) hz hf (pv 2)) pa_nil)))))) (Clauses.cons (i := 2) rfl rfl ⟨rfl, by decide, .inl R.ES.gC⟩ (fun a oe cls d pn hz hf => (pss_one (ps_set (i := 1) sc_law_refused.nd rfl (Or.inl rfl) (pe_tup (pa_cons pe_str (pa_cons (pe_xf R.ES.ex.xf (R.ES.na _ (by simp)) hz hf (pv 2)) (pa_cons (pe_xf R.ES.ex.xf (R.ES.na _ (by simp)) hz hf (pv 2)) pa_nil))))))) (Clauses.cons (i := 2) rfl rfl ⟨rfl, by decide, .inl R.EZ.gC⟩ (fun a oe cls d pn hz hf => (pss_one (ps_set (i := 1) sc_law_refused.nd rfl (Or.inl rfl) (pe_tup (pa_cons pe_str (pa_cons (pe_xf R.EZ.ex.xf (R.EZ.na _ (by simp)) hz hf (pv 2)) pa_nil)))))) (Clauses.cons (i := 2) rfl rfl ⟨rfl, by decide, .inl R.EN.gC⟩ (fun a oe cls d pn hz hf => (pss_one (ps_set (i := 1) sc_law_refused.nd rfl (Or.inl rfl) (pe_tup (pa_cons pe_str (pa_cons (pe_xf R.EN.ex.xf (R.EN.na _ (by simp)) hz hf (pv 2)) pa_nil)))))) (Clauses.cons (i := 2) rfl rfl ⟨rfl, by decide, .inl R.EW.gC⟩ (fun a oe cls d pn hz hf => (pss_one (ps_set (i := 1) sc_law_refused.nd rfl (Or.inl rfl) (pe_tup (pa_cons pe_str (pa_cons (pe_xf R.EW.ex.xf (R.EW.na _ (by simp)) hz hf (pv 2)) pa_nil)))))) (Clauses.cons (i := 2) rfl rfl ⟨rfl, by decide, .inl R.EF.gC⟩ (fun a oe cls d pn hz hf => (pss_one (ps_set (i := 1) sc_law_refused.nd rfl (Or.inl rfl) (pe_tup (pa_cons pe_str (pa_cons (pe_xf R.EF.ex.xf (R.EF.na _ (by simp)) hz hf (pv 2)) (pa_cons (pe_xf R.EF.ex.xf (R.EF.na _ (by simp)) hz hf (pv 2)) pa_nil))))))) Clauses.nil)))))))
      (pss_one (ps_ret (pv 1)))))), ?_⟩
  refine normG (i := 1) (v := .non) (σ := [some (.ref f), none, none]) (σ' := [some (.ref f), some .non, none]) rfl ?_
  try dsimp only
  refine mid (fun σ' H' => ∃ u, σ' = [some (.ref f), some u, none] ∧ Q u H') (fun key => ?_) ?_
  · refine ⟨fun cls d H' => RefE X.K cls d H' Q, fun cls d σ' H' ls he => ?_, rfl, hc, h _ _ (fun v H' z => key _ _ ⟨_, rfl, z⟩) fun cls d H' z => z⟩
    obtain ⟨a1, a2, a3, rfl⟩ : ∃ a1 a2 a3 : Option V, σ' = [a1, a2, a3] := by
      match σ', ls with
      | [a1, a2, a3], _ => exact ⟨a1, a2, a3, rfl⟩
    obtain ⟨x, fs, vs, D, mem, rfl, rfl, hD, lv, back⟩ := he
    simp only [List.mem_cons, List.not_mem_nil, or_false, Prod.mk.injEq] at mem
    rcases mem with ⟨rfl, rfl⟩ | ⟨rfl, rfl⟩ | ⟨rfl, rfl⟩ | ⟨rfl, rfl⟩ | ⟨rfl, rfl⟩
    · obtain ⟨v, rfl⟩ : ∃ v, vs = [v] := by
        match vs, lv with
        | [v], _ => exact ⟨v, rfl⟩
      exact ⟨true, R.xLL, fun _ a ha => ⟨_, rfl, rfl, rfl, D, _, v, rfl, (show H' D = some (.xd [("loop", v)]) from hD), look1, sz2, fun t ht => ⟨_, rfl, back t ht⟩⟩, fun q => Bool.noConfusion q⟩
    · obtain ⟨v, y, rfl⟩ : ∃ v y, vs = [v, y] := by
        match vs, lv with
        | [v, y], _ => exact ⟨v, y, rfl⟩
      exact ⟨false, R.xSL, fun q => Bool.noConfusion q, fun _ => ⟨true, R.xSS, fun _ a ha => ⟨_, rfl, rfl, rfl, D, _, v, rfl, (show H' D = some (.xd [("statement", y), ("loop", v)]) from hD), lookLS, _, rfl, rfl, rfl, D, _, y, rfl, (show H' D = some (.xd [("statement", y), ("loop", v)]) from hD), look1, sz3, fun t ht => ⟨_, rfl, back t ht⟩⟩, fun q => Bool.noConfusion q⟩⟩
    · obtain ⟨v, rfl⟩ : ∃ v, vs = [v] := by
        match vs, lv with
        | [v], _ => exact ⟨v, rfl⟩
      exact ⟨false, R.xZL, fun q => Bool.noConfusion q, fun _ => ⟨false, R.xZS, fun q => Bool.noConfusion q, fun _ => ⟨true, R.xZZ, fun _ a ha => ⟨_, rfl, rfl, rfl, D, _, v, rfl, (show H' D = some (.xd [("n", v)]) from hD), look1, sz2, fun t ht => ⟨_, rfl, back t ht⟩⟩, fun q => Bool.noConfusion q⟩⟩⟩
    · obtain ⟨v, rfl⟩ : ∃ v, vs = [v] := by
        match vs, lv with
        | [v], _ => exact ⟨v, rfl⟩
      exact ⟨false, R.xNL, fun q => Bool.noConfusion q, fun _ => ⟨false, R.xNS, fun q => Bool.noConfusion q, fun _ => ⟨false, R.xNZ, fun q => Bool.noConfusion q, fun _ => ⟨true, R.xNN, fun _ a ha => ⟨_, rfl, rfl, rfl, D, _, v, rfl, (show H' D = some (.xd [("number", v)]) from hD), look1, sz2, fun t ht => ⟨_, rfl, back t ht⟩⟩, fun q => Bool.noConfusion q⟩⟩⟩⟩
    · obtain ⟨v, rfl⟩ : ∃ v, vs = [v] := by
        match vs, lv with
        | [v], _ => exact ⟨v, rfl⟩
      exact ⟨false, R.xWL, fun q => Bool.noConfusion q, fun _ => ⟨false, R.xWS, fun q => Bool.noConfusion q, fun _ => ⟨false, R.xWZ, fun q => Bool.noConfusion q, fun _ => ⟨false, R.xWN, fun q => Bool.noConfusion q, fun _ => ⟨true, R.xWW, fun _ a ha => ⟨_, rfl, rfl, rfl, D, _, v, rfl, (show H' D = some (.xd [("work", v)]) from hD), look1, sz2, fun t ht => ⟨_, rfl, back t ht⟩⟩, fun q => Bool.noConfusion q⟩⟩⟩⟩⟩
  · rintro σ H3 ⟨u, rfl, z⟩
    exact ⟨_, rfl, z⟩
end K35
set_option maxHeartbeats 4000000
namespace K35
open PySem PySem.Spec PyProof.Rows L2 Z
/-- data that may be laid, so deep at most -/
def Lay (k : Nat) (d : PyData) : Prop := d.canLay0 = true ∧ d.depth ≤ k
theorem lay_all {k : Nat} : ∀ {ds : List PyData}, (∀ d ∈ ds, Lay k d) → PyData.canLayAll0 ds = true ∧ PyData.depthAll ds ≤ k
  | [], _ => ⟨rfl, Nat.zero_le _⟩
  | d :: ds, h => by
    have h1 := h d List.mem_cons_self
    have h2 := lay_all fun e he => h e (List.mem_cons_of_mem _ he)
    exact ⟨by simp only [PyData.canLayAll0, h1.1, h2.1, Bool.and_self], by
      have a := h1.2
      have b := h2.2
      simp only [PyData.depthAll]
      omega⟩
theorem Lay.tup {k : Nat} {ds : List PyData} (h : ∀ d ∈ ds, Lay k d) : Lay (k + 1) (.tuple ds) := by
  have := lay_all h
  exact ⟨by simpa [PyData.canLay0] using this.1, by
    have a := this.2
    simp only [PyData.depth]
    omega⟩
theorem Lay.mono {k l : Nat} {d : PyData} (h : Lay k d) (e : k ≤ l) : Lay l d := ⟨h.1, Nat.le_trans h.2 e⟩
theorem Lay.shaped {k : Nat} {d : PyData} (h : Lay k d) (e : k ≤ 64) : SeqAt.shaped d = true := by
  unfold SeqAt.shaped
  rw [h.1, decide_eq_true (Nat.le_trans h.2 e)]
  rfl
theorem lay_int (i : Int) : Lay 0 (.int i) := ⟨rfl, by simp [PyData.depth]⟩
theorem lay_non : Lay 0 .none := ⟨rfl, by simp [PyData.depth]⟩
theorem lay_str {x : Str} (h : PyData.strOk x = true) : Lay 0 (.str x) := ⟨by simpa [PyData.canLay0] using h, by simp [PyData.depth]⟩
/-- all stands but p and the tables of code -/
def KeepN (p : Addr) (H H' : Hp) : Prop := ∀ a o, a ≠ p → (∀ ps, o ≠ .tbl ps) → H a = some o → H' a = some o
theorem KeepN.refl (p : Addr) (H : Hp) : KeepN p H H := fun _ _ _ _ e => e
theorem KeepN.trans {p : Addr} {H H1 H2 : Hp} (a : KeepN p H H1) (b : KeepN p H1 H2) : KeepN p H H2 := fun c o n t e => b c o n t (a c o n t e)
theorem KeepN.of {p : Addr} {H H' : Hp} (k : Keep p H H') : KeepN p H H' := fun a o n _ e => k a o n e
theorem KeepN.same {p : Addr} {H H' : Hp} (s : Same H H') : KeepN p H H' := fun a o _ _ e => s a o e
theorem KeepN.ext {p : Addr} {H H' : Hp} (s : LamX.ExtN H H') : KeepN p H H' := fun a o _ t e => s a o e t
theorem PenC.ext {H H' : Hp} {p pc : Addr} {t : Nat} (h : PenC H p pc t) (s : LamX.ExtN H H') : PenC H' p pc t := by
  obtain ⟨ns, a, l, h1, h2, h3⟩ := h
  exact ⟨ns, a, l, s _ _ h1 (fun _ z => by cases z), s _ _ h2 (fun _ z => by cases z), h3⟩
/-- the tables stay what they are beside a pen -/
theorem tabs_keep {T : List (Addr × Str)} {H H' : Hp} {p pc : Addr} {t : Nat} (h : LamX.Tabs T H) (hp : PenC H p pc t) (k : Keep p H H') : LamX.Tabs T H' := fun q hq => by
  obtain ⟨ps, h1, h2, h3⟩ := h q hq
  refine ⟨ps, k _ _ (hp.ne h1 fun _ z => by cases z) h1, h2, fun pos cv hc => ?_⟩
  obtain ⟨c, e1, e2⟩ := h3 pos cv hc
  exact ⟨c, e1, k _ _ (hp.ne e2 fun kvs z => by unfold LamX.CodeO at z; cases z) e2⟩
section
variable {K : PySem.W.Frag} {H H' : Hp} {p : Addr} {o : HO}
theorem ms_keepN (e : H p = some o) (n : imm o = false) (k : KeepN p H H') : MS H H' := fun a w ea i => k a w (fun z => by
  rw [z, e] at ea
  cases ea
  rw [n] at i
  cases i) (fun ps z => by
  rw [z] at i
  cases i) ea
end
theorem PenC.ms {H H' : Hp} {p pc : Addr} {t : Nat} (h : PenC H p pc t) (k : KeepN p H H') : MS H H' := by
  obtain ⟨ns, a, l, h1, _⟩ := h
  exact ms_keepN h1 rfl k
/-- the def that gets a lambda -/
def RefDef (K : PySem.W.Frag) (mg : Str → Option Value) : Prop := ∃ (g : Addr) (oc : Value) (od : Option Addr) (dV kV doc pm : Value) (an : Option Addr) (cdv ct : Value) (osl : Array (Option Value)), mg "_law_refused" = some (.ref g) ∧ PySem.W.keepIn K (.ref g) = true ∧
  K.lookup g = some ⟨oc, od, .func (PySem.W.fnOf "_law_refused" "_law_refused" (defArgs s_law_refused) (defBody s_law_refused) (defScope s_law_refused) dV kV doc pm an cdv ct), osl⟩ ∧ PySem.W.codeIn K cdv "_law_refused" = true ∧ Binds K (PySem.W.fnOf "_law_refused" "_law_refused" (defArgs s_law_refused) (defBody s_law_refused) (defScope s_law_refused) dV kV doc pm an cdv ct) ["_law_action"] []
/-- a def that makes lambdas: its code object, its table -/
structure MkL (base : Heap) (mg : Str → Option Value) (TS : List (Addr × Str)) (q : Str) (c T : Addr) : Prop where
  tb : LamX.TabB base mg c T
  mem : (T, q) ∈ TS
  uni : ∀ p ∈ TS, p.1 = T → p.2 = q
section
variable {P : Program} {w : World} {K : PySem.W.Frag} {mg : Str → Option Value} {base : Heap}
theorem okC {x : Str} {st : Stmt} {f c : Addr} {fd : FuncData} {CX : CXT} {N ps : List Str} {k : Nat} {sp : Sp} (F : FnP K x st f fd) (hc : fd.code = .ref c) (S : FnScope N ps (defScope st)) (len : ∀ vs H Q E, sp vs H Q E → vs.length = ps.length)
    (go : ∀ (A : Around) (outer : List Env) (s : Shared) (H : Hp) (vs : List V) (Q : VK) (E : XK), Room k (A.deeper (envOfC x (defScope st) s.heap.objs.size f (.ref c))) → sp vs H Q E → ∃ t, PSs (cxOf CX P w K mg base N x (defScope st) f (.ref c) A outer s H E) (defBody st) t ∧ t { nx := fun _ H' => Q .non H', rt := Q } (L2.start N vs) H) :
    FnOk P w K mg base CX (k + 1) f fd ps sp := by
  obtain ⟨oc, od, dV, kV, doc, pm, an, cdv, ct, osl, e, lk, hcd, _⟩ := F.ex
  subst e
  obtain rfl : cdv = .ref c := hc
  exact fn_of lk hcd S len go
end
theorem Lay.lst {k : Nat} {ds : List PyData} (h : ∀ d ∈ ds, Lay k d) : Lay (k + 1) (.list ds) := by
  have := lay_all h
  exact ⟨by simpa [PyData.canLay0] using this.1, by
    have a := this.2
    simp only [PyData.depth]
    omega⟩
end K35
set_option maxHeartbeats 4000000
namespace K35
open PySem PySem.Spec PyProof.Rows L2 Z
section
variable {K : PySem.W.Frag} {TS : List (Addr × Str)} {t : XK → TE} {tt : TE} {σ : L2.St} {H : Hp} {x : Str} {fs : List Str} {vs : List V} {ds : List PyData}
theorem dts_dp {H' : Hp} {u : Addr} (hu : H' u = some (.tup (.str x :: vs))) (dv : DTs H vs ds) (e : TSame H H') : Dp K H' (.ref u) (.tuple (.str x :: ds)) := DT.dp _ (.tup hu (.cons (.str _) (dv.to e)))
theorem tsame_ext {H H' : Hp} (e : LamX.ExtN H H') : TSame H H' := fun a xs h => e _ _ h fun _ z => by cases z
theorem refuse_ne {Q : Bool → Hp → Prop} (tabs : LamX.Tabs TS H) (call : ∀ (H1 : Hp) (R : VK) (E : XK), LamX.ExtN H H1 → RzV K x fs vs H1 E → t E σ H1 R)
    (mem : (x, fs) ∈ ([("NoLoop", ["loop"]), ("NoStatement", ["loop", "statement"]), ("BadSize", ["n"]), ("NoNumber", ["number"]), ("NoWork", ["work"])] : List (Str × List Str))) (lv : vs.length = fs.length)
    (tup : ∀ (H2 : Hp) (R : VK), LamX.ExtN H H2 → (∀ u, H2 u = none → R (.ref u) (upd H2 u (.tup (.str x :: vs)))) → tt σ H2 R) (dv : DTs H vs ds) (sh : SeqAt.shaped (.tuple (.str x :: ds)) = true)
    (k : ∀ H3, LamX.ExtN H H3 → LamX.Tabs TS H3 → Q false H3) : tTest (tOp (rNeD K) (LamX.tLam TS (TTref K) t) tt) σ H Q := by
  refine ⟨tabs, fun H1 e1 tb1 R E _ hE => call H1 R E e1 fun D H2 s2 hd => hE _ _ _ ⟨x, fs, vs, D, mem, rfl, rfl, hd, lv, fun u hu => ?_⟩⟩
  have s3 := Same.new (.tup (.str x :: vs)) s2 hu
  have e3 : LamX.ExtN H (upd H2 u (.tup (.str x :: vs))) := e1.trans (LamX.ExtN.of fun b o e => s3 _ _ e)
  refine tup _ _ e3 fun u2 hu2 => ?_
  have s4 := Same.new (.tup (.str x :: vs)) (Same.refl (upd H2 u (.tup (.str x :: vs)))) hu2
  have e4 := e3.trans (LamX.ExtN.of fun b o e => s4 _ _ e)
  refine ⟨_, _, dts_dp (s4 _ _ upd_same) dv (tsame_ext e4), dts_dp upd_same dv (tsame_ext e4), sh, sh, _, rfl, ?_⟩
  rw [SeqAt.eqv_refl _ (SeqAt.canLay_of_shaped sh)]
  exact k _ e4 ((tb1.ext fun b o e => s3 _ _ e).ext fun b o e => s4 _ _ e)
theorem refuse_eq {Q : VK} (tabs : LamX.Tabs TS H) (call : ∀ (H1 : Hp) (R : VK) (E : XK), LamX.ExtN H H1 → RzV K x fs vs H1 E → t E σ H1 R)
    (mem : (x, fs) ∈ ([("NoLoop", ["loop"]), ("NoStatement", ["loop", "statement"]), ("BadSize", ["n"]), ("NoNumber", ["number"]), ("NoWork", ["work"])] : List (Str × List Str))) (lv : vs.length = fs.length)
    (tup : ∀ (H2 : Hp) (R : VK), LamX.ExtN H H2 → (∀ u, H2 u = none → R (.ref u) (upd H2 u (.tup (.str x :: vs)))) → tt σ H2 R) (dv : DTs H vs ds) (sh : SeqAt.shaped (.tuple (.str x :: ds)) = true)
    (k : ∀ H3, Q (.bl true) H3) : tOp (rEqD K) (LamX.tLam TS (TTref K) t) tt σ H Q := by
  refine ⟨tabs, fun H1 e1 tb1 R E _ hE => call H1 R E e1 fun D H2 s2 hd => hE _ _ _ ⟨x, fs, vs, D, mem, rfl, rfl, hd, lv, fun u hu => ?_⟩⟩
  have s3 := Same.new (.tup (.str x :: vs)) s2 hu
  have e3 : LamX.ExtN H (upd H2 u (.tup (.str x :: vs))) := e1.trans (LamX.ExtN.of fun b o e => s3 _ _ e)
  refine tup _ _ e3 fun u2 hu2 => ?_
  have s4 := Same.new (.tup (.str x :: vs)) (Same.refl (upd H2 u (.tup (.str x :: vs)))) hu2
  have e4 := e3.trans (LamX.ExtN.of fun b o e => s4 _ _ e)
  refine ⟨_, _, dts_dp (s4 _ _ upd_same) dv (tsame_ext e4), dts_dp upd_same dv (tsame_ext e4), sh, sh, ?_⟩
  rw [SeqAt.eqv_refl _ (SeqAt.canLay_of_shaped sh)]
  exact k _
end
/-- an error of the name x with fields told by data -/
theorem sh_err {x : Str} {ds : List PyData} (hx : PyData.strOk x = true) (h : ∀ d ∈ ds, Lay 0 d) : SeqAt.shaped (.tuple (.str x :: ds)) = true := (Lay.tup fun d hd => by
  rcases List.mem_cons.mp hd with rfl | hd
  · exact lay_str hx
  · exact h d hd : Lay 1 (.tuple (.str x :: ds))).shaped (by decide)
end K35
namespace Z
def leaEnd (q : Int × Int) (x g : Int) : Int × Int := if g > 0 then (max q.1 (-(x.fdiv g)), q.2) else if g < 0 then (q.1, min q.2 (x.fdiv (0 - g) + 1)) else if x < 0 then (q.1, 0) else q
def spEnd (q : Int × Int) : Cd → Int × Int
  | .lea x g => leaEnd q x g
  | .rst _ _ _ _ => q
def cdRst : Cd → Bool
  | .rst _ _ _ _ => true
  | .lea _ _ => false
theorem spEnd_lo {q : Int × Int} {c : Cd} (b0 : 0 ≤ q.1) : 0 ≤ (spEnd q c).1 := by
  cases c with
  | lea x g =>
    show 0 ≤ (leaEnd q x g).1
    unfold leaEnd
    split
    · show 0 ≤ max q.1 _
      omega
    · split
      · exact b0
      · split <;> exact b0
  | rst x s m r => exact b0
theorem spEnd_ok {q : Int × Int} {c : Cd} {t : Int} (b0 : 0 ≤ q.1) : ((spEnd q c).1 ≤ t ∧ t < (spEnd q c).2) ↔ (q.1 ≤ t ∧ t < q.2 ∧ (cdRst c = true ∨ c.at t = true)) := by
  cases c with
  | rst x s m r => exact ⟨fun h => ⟨h.1, h.2, .inl rfl⟩, fun h => ⟨h.1, h.2.1⟩⟩
  | lea x g =>
    have n := narrow_ok (lo := q.1) (hi := q.2 - 1) (start := x) (g := g) (t := t)
    have ca : (cdRst (.lea x g) = true ∨ Cd.at (.lea x g) t = true) ↔ 0 ≤ x + g * t := by
      show (false = true ∨ decide (0 ≤ x + g * t) = true) ↔ _
      rw [decide_eq_true_eq]
      exact ⟨fun h => h.resolve_left Bool.false_ne_true, .inr⟩
    rw [ca]
    show ((leaEnd q x g).1 ≤ t ∧ t < (leaEnd q x g).2) ↔ _
    unfold leaEnd
    unfold narrowL at n
    by_cases g1 : g > 0
    · rw [if_pos g1] at n ⊢
      dsimp only at n ⊢
      constructor
      · intro h
        have := n.mp ⟨h.1, by omega⟩
        exact ⟨this.1, by omega, this.2.2⟩
      · intro h
        have := n.mpr ⟨h.1, by omega, h.2.2⟩
        exact ⟨this.1, by omega⟩
    · rw [if_neg g1] at n ⊢
      by_cases g2 : g < 0
      · rw [if_pos g2] at n ⊢
        rw [Int.zero_sub]
        dsimp only at n ⊢
        constructor
        · intro h
          have := n.mp ⟨h.1, by omega⟩
          exact ⟨this.1, by omega, this.2.2⟩
        · intro h
          have := n.mpr ⟨h.1, by omega, h.2.2⟩
          exact ⟨this.1, by omega⟩
      · rw [if_neg g2]
        obtain rfl : g = 0 := by omega
        rw [Int.zero_mul, Int.add_zero]
        by_cases x0 : x < 0
        · rw [if_pos x0]
          dsimp only
          omega
        · rw [if_neg x0]
          exact ⟨fun h => ⟨h.1, h.2, by omega⟩, fun h => ⟨h.1, h.2.1⟩⟩
def spEnds (N : Int) (cs : List Cd) : Int × Int := cs.foldl spEnd (0, N)
theorem spEnds_ok {t : Int} : ∀ {cs : List Cd} {q : Int × Int}, 0 ≤ q.1 → 0 ≤ (cs.foldl spEnd q).1 ∧ (((cs.foldl spEnd q).1 ≤ t ∧ t < (cs.foldl spEnd q).2) ↔ (q.1 ≤ t ∧ t < q.2 ∧ ∀ c ∈ cs, cdRst c = true ∨ c.at t = true))
  | [], q, b0 => ⟨b0, fun h => ⟨h.1, h.2, fun _ z => by cases z⟩, fun h => ⟨h.1, h.2.1⟩⟩
  | c :: cs, q, b0 => by
    obtain ⟨h1, h2⟩ := spEnds_ok (t := t) (cs := cs) (q := spEnd q c) (spEnd_lo b0)
    refine ⟨h1, h2.trans ?_⟩
    have h3 := spEnd_ok (c := c) (t := t) b0
    constructor
    · rintro ⟨a, b, d⟩
      obtain ⟨e1, e2, e3⟩ := h3.mp ⟨a, b⟩
      exact ⟨e1, e2, fun z hz => (List.mem_cons.mp hz).elim (fun z => z ▸ e3) (d z)⟩
    · rintro ⟨a, b, d⟩
      obtain ⟨e1, e2⟩ := h3.mpr ⟨a, b, d c List.mem_cons_self⟩
      exact ⟨e1, e2, fun z hz => d z (List.mem_cons_of_mem _ hz)⟩
def r12 : List Int := [0, 1, 2, 3, 4, 5, 6, 7, 8, 9, 10, 11]
def spRs (cs : List Cd) : List Int := r12.filter fun t => (cs.filter cdRst).all fun c => c.at t
def spTn (N : Int) (cs : List Cd) : Tn := ⟨(spEnds N cs).1, max (spEnds N cs).1 (spEnds N cs).2 - 1, spRs cs⟩
theorem spRs_ok (cs : List Cd) : RsOk (spRs cs) := ⟨rs12.nd.filter _, fun y hy => rs12.low y (List.mem_filter.mp hy).1⟩
theorem rst_at {c : Cd} (ok : c.Ok) (h : cdRst c = true) (t : Int) : c.at (t % 12) = c.at t := by
  cases c with
  | lea x g => cases h
  | rst x s m r =>
    have hc : m = 1 ∨ m = 2 ∨ m = 3 ∨ m = 4 := ok
    have m0 : 0 ≤ m := by rcases hc with h | h | h | h <;> omega
    show decide _ = decide _
    rw [Int.fmod_eq_emod_of_nonneg _ m0, Int.fmod_eq_emod_of_nonneg _ m0, ← cycle_mod (x := x) (s := s) (t := t) hc]
theorem spTn_lo {N : Int} {cs : List Cd} : 0 ≤ (spTn N cs).lo := (spEnds_ok (t := 0) (cs := cs) (q := (0, N)) (Int.le_refl 0)).1
theorem spTn_end {N : Int} {cs : List Cd} : (spTn N cs).lo ≤ (spTn N cs).hi + 1 := by
  unfold spTn
  dsimp only
  omega
theorem spTn_has {N : Int} {cs : List Cd} (ok : ∀ c ∈ cs, c.Ok) {t : Int} : (spTn N cs).has t = (decide (0 ≤ t) && decide (t < N) && cs.all fun c => c.at t) := by
  rw [Bool.eq_iff_iff, Tn.has_iff, Bool.and_eq_true, Bool.and_eq_true, decide_eq_true_eq, decide_eq_true_eq, List.all_eq_true]
  have h := (spEnds_ok (t := t) (cs := cs) (q := (0, N)) (Int.le_refl 0)).2
  have hr : t % 12 ∈ spRs cs ↔ ∀ c ∈ cs, cdRst c = true → c.at t = true := by
    unfold spRs
    rw [List.mem_filter, List.all_eq_true]
    constructor
    · rintro ⟨_, z⟩ c hc hr
      rw [← rst_at (ok c hc) hr]
      exact z c (List.mem_filter.mpr ⟨hc, hr⟩)
    · intro z
      refine ⟨?_, fun c hc => ?_⟩
      · have : 0 ≤ t % 12 ∧ t % 12 < 12 := by omega
        unfold r12
        simp only [List.mem_cons, List.not_mem_nil, or_false]
        omega
      · obtain ⟨h1, h2⟩ := List.mem_filter.mp hc
        rw [rst_at (ok c h1) h2]
        exact z c h1 h2
  show ((spEnds N cs).1 ≤ t ∧ t ≤ max (spEnds N cs).1 (spEnds N cs).2 - 1 ∧ t % 12 ∈ spRs cs) ↔ _
  have e : ((spEnds N cs).1 ≤ t ∧ t ≤ max (spEnds N cs).1 (spEnds N cs).2 - 1) ↔ ((spEnds N cs).1 ≤ t ∧ t < (spEnds N cs).2) := by omega
  rw [← and_assoc, e, hr]
  unfold spEnds
  rw [h]
  constructor
  · rintro ⟨⟨a, b, c⟩, d⟩
    exact ⟨⟨a, b⟩, fun c' hc => (c c' hc).elim (d c' hc) id⟩
  · rintro ⟨⟨a, b⟩, c⟩
    exact ⟨⟨a, b, fun c' hc => .inr (c c' hc)⟩, fun c' hc _ => c c' hc⟩
/-- how many turns stand below, by ends and rests -/
def spBel (b e : Int) (rs : List Int) (t : Int) : Int := (rs.map fun r => (min (max t b) e - r + 11).fdiv 12 - (b - r + 11).fdiv 12).sum
theorem ind_sum {y : Int} : ∀ {rs : List Int}, rs.Nodup → (rs.map fun r => if y = r then (1 : Int) else 0).sum = if y ∈ rs then 1 else 0
  | [], _ => rfl
  | r :: rs, h => by
    obtain ⟨h1, h2⟩ := List.nodup_cons.mp h
    rw [List.map_cons, List.sum_cons, ind_sum h2]
    by_cases e : y = r
    · subst e
      rw [if_pos rfl, if_neg h1, if_pos List.mem_cons_self]
      rfl
    · rw [if_neg e]
      by_cases m : y ∈ rs
      · rw [if_pos m, if_pos (List.mem_cons_of_mem _ m)]
        rfl
      · rw [if_neg m, if_neg fun z => (List.mem_cons.mp z).elim e m]
        rfl
theorem sum_add {f g : Int → Int} : ∀ rs : List Int, (rs.map fun r => f r + g r).sum = (rs.map f).sum + (rs.map g).sum
  | [] => rfl
  | r :: rs => by
    simp only [List.map_cons, List.sum_cons, sum_add rs]
    omega
theorem up12 {x r : Int} (h : 0 ≤ r ∧ r < 12) : (x + 1 - r + 11).fdiv 12 = (x - r + 11).fdiv 12 + if x % 12 = r then 1 else 0 := by
  rw [fdiv12, fdiv12]
  split <;> omega
theorem spCnt {rs : List Int} (h : RsOk rs) (b : Int) : ∀ k : Nat, (rs.map fun r => (b + (k : Int) - r + 11).fdiv 12 - (b - r + 11).fdiv 12).sum = (cntT rs b k : Int)
  | 0 => by
    have e : (rs.map fun r => (b + ((0 : Nat) : Int) - r + 11).fdiv 12 - (b - r + 11).fdiv 12) = rs.map fun _ => (0 : Int) := List.map_congr_left fun r _ => by
      rw [show b + ((0 : Nat) : Int) = b by omega]
      omega
    rw [e, cntT_zero]
    clear e h
    induction rs with
    | nil => rfl
    | cons r rs ih => simpa using ih
  | k + 1 => by
    have e : (rs.map fun r => (b + ((k + 1 : Nat) : Int) - r + 11).fdiv 12 - (b - r + 11).fdiv 12) = rs.map fun r => ((b + (k : Int) - r + 11).fdiv 12 - (b - r + 11).fdiv 12) + if (b + (k : Int)) % 12 = r then 1 else 0 := List.map_congr_left fun r hr => by
      rw [show b + ((k + 1 : Nat) : Int) = b + (k : Int) + 1 by omega, up12 (h.low r hr)]
      omega
    rw [e, sum_add, spCnt h b k, ind_sum h.nd, cntT_succ]
    split <;> omega
theorem spBel_is {T : Tn} (h : RsOk T.rs) (l0 : 0 ≤ T.lo) (hE : T.lo ≤ T.hi + 1) {t : Int} (t0 : 0 ≤ t) : spBel T.lo (T.hi + 1) T.rs t = (T.below t : Int) := by
  obtain ⟨k, rfl⟩ : ∃ k : Nat, t = (k : Int) := ⟨t.toNat, by omega⟩
  rw [← below_is l0, ← spCnt h]
  unfold spBel
  rw [show min (max (k : Int) T.lo) (T.hi + 1) = T.lo + (((min (k : Int) (T.hi + 1) - T.lo).toNat : Nat) : Int) by omega]
theorem below_like {T T' : Tn} : ∀ {k : Nat}, (∀ j : Nat, j < k → T.has (j : Int) = T'.has (j : Int)) → T.below (k : Int) = T'.below (k : Int)
  | 0, _ => rfl
  | k + 1, h => by
    have ih := below_like (k := k) fun j hj => h j (by omega)
    have e0 : ((k + 1 : Nat) : Int) = (k : Int) + 1 := rfl
    rw [e0, below_succ, below_succ, ih, h k (by omega)]
/-- the turns told from the other end -/
theorem below_rev {T T' : Tn} {N : Nat} (h : ∀ j : Nat, j < N → T'.has (j : Int) = T.has ((N - 1 - j : Nat) : Int)) : ∀ {k : Nat}, k ≤ N → T'.below (k : Int) + T.below ((N - k : Nat) : Int) = T.below (N : Int)
  | 0, _ => by
    rw [show T'.below ((0 : Nat) : Int) = 0 from rfl, Nat.sub_zero, Nat.zero_add]
  | k + 1, hk => by
    have ih := below_rev h (k := k) (by omega)
    have e0 : ((k + 1 : Nat) : Int) = (k : Int) + 1 := rfl
    obtain ⟨m, hm⟩ : ∃ m : Nat, N - (k + 1) = m := ⟨_, rfl⟩
    have e1 : N - k = m + 1 := by omega
    have e2 : ((m + 1 : Nat) : Int) = (m : Int) + 1 := rfl
    rw [e1, e2, below_succ] at ih
    have e3 := h k (by omega)
    rw [show N - 1 - k = m by omega] at e3
    rw [e0, below_succ, hm, e3]
    omega
end Z
set_option maxHeartbeats 4000000
namespace K35
open PySem PySem.Spec PyProof.Rows L2 Z
theorem tabs_upd {T : List (Addr × Str)} {H : Hp} {R : Addr} {xs : List V} {o : HO} (h : LamX.Tabs T H) (e : H R = some (.lst xs)) : LamX.Tabs T (upd H R o) := fun q hq => by
  obtain ⟨ps, h1, h2, h3⟩ := h q hq
  refine ⟨ps, by rw [upd_ne (ne_of h1 e (by intro z; cases z))]; exact h1, h2, fun pos cv hc => ?_⟩
  obtain ⟨c, e1, e2⟩ := h3 pos cv hc
  exact ⟨c, e1, by rw [upd_ne (ne_of e2 e (by unfold LamX.CodeO; intro z; cases z))]; exact e2⟩
theorem mxI (i j : Int) : (if j > i then j else i) = max i j := by
  split <;> omega
theorem mnI (i j : Int) : (if j < i then j else i) = min i j := by
  split <;> omega
def spFar : Sp := fun vs H Q _ => ∃ (p pc : Addr) (t : Nat), vs = [.ref p] ∧ t < 960000000 ∧ PenC H p pc t ∧ ∀ H' (n : Int), 0 ≤ n → n ≤ TOP → PenC H' p pc (t + 10) → Keep p H H' → Q (.int n) H'
def cdL (f st n : Int) : Gd → Cd
  | .lea a b c => .lea (a * f + b * n + c) (a * st)
  | .rst a b c m r => .rst (a * f + b * n + c) (a * st) m r
theorem cdL_at (f st n u : Int) (g : Gd) : (cdL f st n g).at u = gdV g (f + u * st) n := by
  have e : ∀ a b c : Int, a * f + b * n + c + a * st * u = a * (f + u * st) + b * n + c := fun a b c => by
    rw [Int.mul_add, Int.mul_assoc, Int.mul_comm st u]
    omega
  cases g with
  | lea a b c =>
    show decide _ = decide _
    rw [e a b c]
  | rst a b c m r =>
    show decide _ = decide _
    rw [e a b c]
theorem cdL_ok {f st n : Int} {gds : List Gd} (gok : ∀ g ∈ gds, GdOk g) : ∀ c ∈ gds.map (cdL f st n), c.Ok := by
  intro c hc
  obtain ⟨g, hg, rfl⟩ := List.mem_map.mp hc
  have := gok g hg
  cases g with
  | lea a b c => trivial
  | rst a b c m r =>
    obtain ⟨_, m2, m4, _⟩ := this
    show m = 1 ∨ m = 2 ∨ m = 3 ∨ m = 4
    omega
/-- the turns, by ascending counters, at which all conditions hold -/
def spanT (l : LpM) (n : Int) (gds : List Gd) : Tn := spTn (lpN l n) (gds.map (cdL (lpL l n) l.S n))
theorem spanT_has {l : LpM} {n u : Int} {gds : List Gd} (gok : ∀ g ∈ gds, GdOk g) : (spanT l n gds).has u = (decide (0 ≤ u) && decide (u < lpN l n) && gds.all fun g => gdV g (lpL l n + u * l.S) n) := by
  unfold spanT
  rw [spTn_has (cdL_ok gok), List.all_map]
  congr 2
  funext g
  exact cdL_at _ _ _ _ g
/-- the loop's own turns and those by ascending counters -/
theorem dtn_below {l : LpM} {n : Int} {gds : List Gd} (gok : ∀ g ∈ gds, GdOk g) {t : Nat} (ht : (t : Int) ≤ lpN l n) :
    ((dtn l n gds).below (t : Int) : Int) = if l.dn = true then ((spanT l n gds).below (lpN l n) : Int) - ((spanT l n gds).below (lpN l n - t) : Int) else ((spanT l n gds).below (t : Int) : Int) := by
  cases hd : l.dn with
  | false =>
    rw [if_neg Bool.false_ne_true]
    congr 1
    refine below_like fun j hj => ?_
    rw [dtn_has gok, spanT_has gok]
    unfold ctr
    rw [hd, if_neg Bool.false_ne_true]
  | true =>
    rw [if_pos rfl]
    obtain ⟨N, hN⟩ : ∃ N : Nat, lpN l n = (N : Int) := ⟨(lpN l n).toNat, by have := lpN_0 l n; omega⟩
    have h := below_rev (T := spanT l n gds) (T' := dtn l n gds) (N := N) (fun j hj => by
      rw [dtn_has gok, spanT_has gok]
      unfold ctr
      rw [hd, if_pos rfl, hN, show (N : Int) - 1 - (j : Int) = ((N - 1 - j : Nat) : Int) by omega]
      congr 1
      rw [decide_eq_true (show (0 : Int) ≤ (j : Int) by omega), decide_eq_true (show (j : Int) < (N : Int) by omega), decide_eq_true (show (0 : Int) ≤ ((N - 1 - j : Nat) : Int) by omega), decide_eq_true (show ((N - 1 - j : Nat) : Int) < (N : Int) by omega)]) (k := t) (by omega)
    rw [hN, show (N : Int) - (t : Int) = ((N - t : Nat) : Int) by omega]
    omega
theorem dtn_all {l : LpM} {n : Int} {gds : List Gd} (gok : ∀ g ∈ gds, GdOk g) : ((spanT l n gds).below (lpN l n) : Int) = ((dtn l n gds).below (lpN l n) : Int) := by
  obtain ⟨N, hN⟩ : ∃ N : Nat, lpN l n = (N : Int) := ⟨(lpN l n).toNat, by have := lpN_0 l n; omega⟩
  have h := dtn_below (l := l) (n := n) gok (t := N) (by omega)
  rw [hN] at h ⊢
  rw [h, Int.sub_self]
  split
  · rw [show (spanT l n gds).below 0 = 0 from rfl]
    omega
  · rfl
def SpAt (H : Hp) (t : Addr) (T : Tn) : Prop := ∃ r, H t = some (.tup [.int T.lo, .int (T.hi + 1), .ref r]) ∧ H r = some (.lst (T.rs.map V.int))
theorem SpAt.same {H H' : Hp} {t : Addr} {T : Tn} (h : SpAt H t T) (s : Same H H') : SpAt H' t T := by
  obtain ⟨r, h1, h2⟩ := h
  exact ⟨r, s _ _ h1, s _ _ h2⟩
def spSpan : Sp := fun vs H Q _ => ∃ (Pd : Addr → Prop) (v u : V) (l : LpM) (s : StM) (n : Int), vs = [v, u, .int n] ∧ DL Pd H v (lpR l) ∧ DL Pd H u (stR s) ∧ LpOk l ∧ StOk s ∧ ∀ t H', Same H H' → SpAt H' t (spanT l n s.gds) → Q (.ref t) H'
def isRst : Gd → Bool
  | .rst _ _ _ _ _ => true
  | .lea _ _ _ => false
/-- the conditions with rests hold at the counter of that turn -/
def rstAt (l : LpM) (n : Int) (gds : List Gd) (u : Int) : Bool := (gds.filter isRst).all fun g => gdV g (lpL l n + u * l.S) n
theorem rstAt_is (l : LpM) (n : Int) (gds : List Gd) (u : Int) : rstAt l n gds u = ((gds.map (cdL (lpL l n) l.S n)).filter cdRst).all fun c => c.at u := by
  unfold rstAt
  rw [List.filter_map, List.all_map]
  congr 1
  · congr 1
    funext g
    cases g <;> rfl
  · funext g
    exact (cdL_at _ _ _ _ g).symm
theorem r12_at : ∀ k : Nat, k < 12 → r12[k]? = some (k : Int) := by decide
theorem all_none {α : Type} (p : α → Bool) (xs : List α) : decide (V.int ((xs.filter fun g => !p g).length : Int) = V.int 0) = xs.all p := by
  rw [Bool.eq_iff_iff, decide_eq_true_eq, List.all_eq_true]
  constructor
  · intro z g hg
    have z2 : ((xs.filter fun g => !p g).length : Int) = 0 := V.int.inj z
    have z3 : xs.filter (fun g => !p g) = [] := List.eq_nil_of_length_eq_zero (by omega)
    have := List.filter_eq_nil_iff.mp z3 g hg
    cases hv : p g with
    | true => rfl
    | false =>
      rw [hv] at this
      exact absurd rfl this
  · intro z
    have z3 : xs.filter (fun g => !p g) = [] := List.filter_eq_nil_iff.mpr fun g hg => by rw [z g hg]; decide
    rw [z3]
    rfl
def spLBelow : Sp := fun vs H Q _ => ∃ (t : Addr) (T : Tn) (i : Int), vs = [.ref t, .int i] ∧ SpAt H t T ∧ RsOk T.rs ∧ 0 ≤ T.lo ∧ T.lo ≤ T.hi + 1 ∧ 0 ≤ i ∧ T.rs.length ≤ 12 ∧ ∀ H', Same H H' → Q (.int (T.below i : Int)) H'
section
variable {P : Program} {w : World} {K : PySem.W.Frag} {mg : Str → Option Value} {base : Heap}
theorem sc_law_far : FnScope ["_law_pen", "_law_found", "_law_k"] ["_law_pen"] (defScope s_law_far) := ⟨rfl, rfl, rfl, by decide +kernel, rfl, by decide +kernel, by decide +kernel⟩
theorem ok_far {f : Addr} {fd : FuncData} (F : FnP K "_law_far" s_law_far f fd) (T : LwTx K mg) (dDraw : Dn P w K mg base 1 "_law_draw" ["_law_pen", "_law_many_here"] spDraw) : FnOk P w K mg base CX0 2 f fd ["_law_pen"] spFar := by
  refine F.ok sc_law_far (fun vs H Q E h => ?_) (fun cdv A outer s H vs Q E hr h => ?_)
  · obtain ⟨p, pc, t, rfl, _⟩ := h
    rfl
  · obtain ⟨p, pc, t, rfl, ht, hP, k⟩ := h
    refine ⟨_, PSs.nox (pss_cons (ps_if (pt_cmpR op_eq (pe_dn dDraw hr (pa_cons (pv 0) (pa_cons pe_int pa_nil))) pe_int (nomark _)) (pss_one (ps_ret (pe_op op_pow pe_int pe_int))) pss_nil)
      (pss_cons (ps_set (i := 1) sc_law_far.nd rfl (Or.inl rfl) pe_int)
      (pss_cons (ps_for PassesOwn.never rfl (pi_range1 (by rfl) T.range (pa_cons (pe_op op_add pe_int (pe_dn dDraw hr (pa_cons (pv 0) (pa_cons pe_int pa_nil)))) pa_nil)) (pg_name (i := 2) sc_law_far.nd rfl (.inl rfl)) (pss_one (ps_set (i := 1) sc_law_far.nd rfl (Or.inl rfl) (pe_op op_add (pe_op op_mul (pv 1) (pe_op op_pow pe_int pe_int)) (pe_dn dDraw hr (pa_cons (pv 0) (pa_cons (pe_op op_pow pe_int pe_int) pa_nil)))))))
      (pss_one (ps_ret (pv 1)))))), ?_⟩
    refine ⟨_, rfl, p, pc, 5, t, rfl, by decide, by decide, by omega, hP, fun H1 d d0 d1 hp1 k1 => ⟨rfl, _, rfl, ite2 (fun _ => ?_) (fun _ => ?_)⟩⟩
    · exact ⟨_, _, rfl, rfl, ⟨by decide, by decide, by decide⟩, k H1 _ (by decide) (by decide) (hp1.mono (by omega)) k1⟩
    refine un_next ?_
    try dsimp only
    refine normG (σ' := [some (.ref p), some (.int 0), none]) rfl ?_
    try dsimp only
    refine ⟨_, rfl, p, pc, 5, t + 1, rfl, by decide, by decide, by omega, hp1, fun H2 e e0 e1 hp2 k2 => ⟨_, _, rfl, rfl, 1 + e, rfl, by omega, by omega, ?_⟩⟩
    obtain ⟨b, hb⟩ : ∃ b : Nat, 1 + e = (b : Int) := ⟨(1 + e).toNat, by omega⟩
    rw [hb, Int.toNat_natCast]
    refine for_range (lo := 0) (n := b) (fun i σ H' => ∃ (x : Int) (v2 : Option V), σ = [some (.ref p), some (.int x), v2] ∧ 0 ≤ x ∧ x < 1000000 ^ i ∧ PenC H' p pc (t + 2 + i) ∧ Keep p H H') ⟨0, _, rfl, by decide, by decide, hp2, k1.trans k2⟩ ?_ ?_
    · rintro i σ H3 hi ⟨x, v2, rfl, x0, x1, hp3, k3⟩
      refine normG (σ' := [some (.ref p), some (.int x), some (.int (0 + (i : Int)))]) rfl ?_
      refine ⟨_, rfl, _, _, rfl, rfl, ⟨by decide, by decide, by decide⟩, _, _, rfl, rfl, .inr ⟨by decide, by decide⟩, _, rfl, _, _, rfl, rfl, ⟨by decide, by decide, by decide⟩, p, pc, 1000000, _, rfl, by decide, by decide, by omega, hp3, fun H4 d d0 d1 hp4 k4 => ⟨_, _, rfl, rfl, ?_⟩⟩
      refine normG (σ' := [some (.ref p), some (.int (x * 1000000 + d)), some (.int (0 + (i : Int)))]) rfl ⟨_, _, rfl, by omega, ?_, hp4, k3.trans k4⟩
      rw [Int.pow_succ]
      omega
    · rintro σ H3 ⟨x, v2, rfl, x0, x1, hp3, k3⟩
      refine ⟨_, rfl, k H3 x x0 ?_ (hp3.mono (by omega)) k3⟩
      have : (1000000 : Int) ^ b ≤ TOP := by
        match b, hb with
        | 0, _ => decide
        | 1, _ => decide
        | 2, _ => decide
        | 3, _ => decide
        | 4, _ => decide
        | 5, _ => decide
        | b + 6, hb => exact absurd hb (by omega)
      omega
theorem sc_law_span : FnScope ["_law_loop_here", "_law_statement_here", "_law_n", "_law_begin", "_law_end", "_law_rests", "_law_least_here", "_law_row", "_law_whole", "_law_growth", "_law_tests", "_law_rest"] ["_law_loop_here", "_law_statement_here", "_law_n"] (defScope s_law_span) := ⟨rfl, rfl, rfl, by decide +kernel, rfl, by decide +kernel, by decide +kernel⟩
theorem ok_span {f : Addr} {fd : FuncData} (F : FnP K "_law_span" s_law_span f fd) (T : LwTx K mg) (dLLeast : Dn P w K mg base 1 "_law_least" ["_law_loop_here", "_law_n"] spLLeast) (dLTurns : Dn P w K mg base 2 "_law_turns" ["_law_loop_here", "_law_n"] spLTurns) (dHolds : Dn P w K mg base 1 "_law_holds" ["_law_row", "_law_i", "_law_n"] spHolds) :
    FnOk P w K mg base CX0 3 f fd ["_law_loop_here", "_law_statement_here", "_law_n"] spSpan := by
  refine F.ok sc_law_span (fun vs H Q E h => ?_) (fun cdv A outer s H vs Q E hr h => ?_)
  · obtain ⟨Pd, v, u, l, m, n, rfl, _⟩ := h
    rfl
  · obtain ⟨Pd, v, u, l, m, n, rfl, hv, hu, ok, oks, k⟩ := h
    obtain ⟨r, t1, t2, ts, xs, rfl, h1, h2, h3, _, _⟩ := dl_lp hv
    obtain ⟨t, q, tr, tg, xr, xg, rfl, ht, hq, hr', dr, hg, dg⟩ := dl_st hu
    have oks' := oks
    obtain ⟨nmx, _, k0, k1, lr, lg, okr, okg⟩ := oks
    refine ⟨_, PSs.nox (pss_cons (ps_par3 (i := 3) (j := 4) (l := 5) (by rfl) sc_law_span.nd rfl rfl rfl (by decide) (by decide) (by decide) rfl rfl rfl (pa_cons pe_int (pa_cons (pe_dn dLTurns hr (pa_cons (pv 0) (pa_cons (pv 2) pa_nil))) (pa_cons (pe_lst pa_nil) pa_nil))) (by rfl))
      (pss_cons (ps_set (i := 6) sc_law_span.nd rfl (Or.inr rfl) (pe_dn dLLeast hr (pa_cons (pv 0) (pa_cons (pv 2) pa_nil))))
      (pss_cons (ps_for PassesOwn.never rfl (pi_list (pe_ix (ix_tupK (K := K) rfl) (pv 1) pe_int (fun _ _ => rfl))) (pg_name (i := 7) sc_law_span.nd rfl (.inl rfl)) (pss_one (ps_if (pt_cmpR op_eq (pe_ix (ix_tupK (K := K) rfl) (pv 7) pe_int (fun _ _ => rfl)) pe_str (nomark _)) (pss_cons (ps_set (i := 8) sc_law_span.nd rfl (Or.inl rfl) (pe_op op_add (pe_op op_add (pe_op op_mul (pe_ix (ix_tupK (K := K) rfl) (pv 7) pe_int (fun _ _ => rfl)) (pv 6)) (pe_op op_mul (pe_ix (ix_tupK (K := K) rfl) (pv 7) pe_int (fun _ _ => rfl)) (pv 2))) (pe_ix (ix_tupK (K := K) rfl) (pv 7) pe_int (fun _ _ => rfl))))
      (pss_cons (ps_set (i := 9) sc_law_span.nd rfl (Or.inl rfl) (pe_op op_mul (pe_ix (ix_tupK (K := K) rfl) (pv 7) pe_int (fun _ _ => rfl)) (pe_ix (ix_tupK (K := K) rfl) (pv 0) pe_int (fun _ _ => rfl))))
      (pss_one (ps_if (pt_cmpR op_gt (pv 9) pe_int (nomark _)) (pss_one (ps_set (i := 3) sc_law_span.nd rfl (Or.inl rfl) (pe_callB (call_max2 rfl) (by rfl) T.max (by decide +kernel) (pa_cons (pv 3) (pa_cons (pe_un un_neg (pe_op op_fdivN (pv 8) (pv 9))) pa_nil))))) (pss_one (ps_if (pt_cmpR op_lt (pv 9) pe_int (nomark _)) (pss_one (ps_set (i := 4) sc_law_span.nd rfl (Or.inl rfl) (pe_callB (call_min2 rfl) (by rfl) T.min (by decide +kernel) (pa_cons (pv 4) (pa_cons (pe_op op_add (pe_op op_fdivN (pv 8) (pe_op op_sub pe_int (pv 9))) pe_int) pa_nil))))) (pss_one (ps_if (pt_cmpR op_lt (pv 8) pe_int (nomark _)) (pss_one (ps_set (i := 4) sc_law_span.nd rfl (Or.inl rfl) pe_int)) pss_nil)))))))) pss_nil)))
      (pss_cons (ps_setLc (i := 10) (own := [("_law_row", 7)]) (g := gName 7) rfl sc_law_span.nd rfl rfl (sw_true rfl rfl rfl (by decide +kernel)) (pi_list (pe_ix (ix_tupK (K := K) rfl) (pv 1) pe_int (fun _ _ => rfl))) (blkOk_by (N := ["_law_loop_here", "_law_statement_here", "_law_n", "_law_begin", "_law_end", "_law_rests", "_law_least_here", "_law_row", "_law_whole", "_law_growth", "_law_tests", "_law_rest"]) (sc := defScope s_law_span) (by decide +kernel)) (fun _ _ _ _ _ => (pg_name (i := 7) sc_law_span.nd rfl (.inl rfl))) (fun _ _ _ _ _ => (pts_one (pt_cmpR op_eq (pe_ix (ix_tupK (K := K) rfl) (pv 7) pe_int (fun _ _ => rfl)) pe_str (nomark _)))) (fun _ _ _ _ _ => (pv 7)))
      (pss_cons (ps_for PassesOwn.never rfl (pi_range1 (by rfl) T.range (pa_cons pe_int pa_nil)) (pg_name (i := 11) sc_law_span.nd rfl (.inr rfl)) (pss_one (ps_if (pt_cmpR op_eq (pe_callB (call_len_seqK (K := K) rfl) (by rfl) T.len PySem.boot_len (pa_cons (pe_lc (own := [("_law_row", 7)]) (g := gName 7) rfl sc_law_span.nd (pi_list (pv 10)) (blkOk_by (N := ["_law_loop_here", "_law_statement_here", "_law_n", "_law_begin", "_law_end", "_law_rests", "_law_least_here", "_law_row", "_law_whole", "_law_growth", "_law_tests", "_law_rest"]) (sc := defScope s_law_span) (by decide +kernel)) (fun _ _ _ _ _ => (pg_name (i := 7) sc_law_span.nd rfl (.inl rfl))) (fun _ _ _ _ _ => (pts_one (pt_not (pt_val (pe_dn dHolds hr (pa_cons (pv 7) (pa_cons (pe_op op_add (pv 6) (pe_op op_mul (pe_ix (ix_tupK (K := K) rfl) (pv 0) pe_int (fun _ _ => rfl)) (pv 11))) (pa_cons (pv 2) pa_nil)))))))) (fun _ _ _ _ _ => (pv 7))) pa_nil)) pe_int (nomark _)) (pss_one (ps_expr (pe_bm PySem.F.plainAttrs_list PySem.F.slot_list_append PySem.F.type_list_append mt_append (pv 5) (pa_cons (pv 11) pa_nil)))) pss_nil)))
      (pss_one (ps_ret (pe_tup (pa_cons (pv 3) (pa_cons (pe_callB (call_max2 rfl) (by rfl) T.max (by decide +kernel) (pa_cons (pv 3) (pa_cons (pv 4) pa_nil))) (pa_cons (pv 5) pa_nil))))))))))), ?_⟩
    refine ⟨_, rfl, _, rfl, Pd, _, l, n, rfl, hv, ok, sz0, fun R hR => ⟨_, _, _, rfl, ?_⟩⟩
    have s1 := Same.new (.lst []) (Same.refl H) hR
    have eR : (upd H R (.lst [])) R = some (.lst []) := upd_same
    obtain ⟨H1, eH1⟩ : ∃ X, X = upd H R (.lst []) := ⟨_, rfl⟩
    rw [← eH1] at s1 eR ⊢
    refine norm (N := fun σ _ => _) (σ' := [some (.ref r), some (.ref t), some (.int n), some (.int 0), some (.int (lpN l n)), some (.ref R), none, none, none, none, none, none]) rfl ?_
    try dsimp only
    refine ⟨_, rfl, _, rfl, Pd, _, l, n, rfl, hv.to (.of s1), ok, ?_⟩
    refine normG (σ' := [some (.ref r), some (.ref t), some (.int n), some (.int 0), some (.int (lpN l n)), some (.ref R), some (.int (lpL l n)), none, none, none, none, none]) rfl ?_
    try dsimp only
    refine ⟨_, rfl, t, _, _, _, rfl, rfl, SqT.of (s1 _ _ ht), at3, tg, rfl, ⟨_, SqL.of (s1 _ _ hg)⟩, ?_⟩
    refine for_list (K := K) (xs := xg) (fun j σ H' => ∃ (v7 v8 v9 : Option V), σ = [some (.ref r), some (.ref t), some (.int n), some (.int (((m.gds.take j).map (cdL (lpL l n) l.S n)).foldl spEnd (0, lpN l n)).1), some (.int (((m.gds.take j).map (cdL (lpL l n) l.S n)).foldl spEnd (0, lpN l n)).2), some (.ref R), some (.int (lpL l n)), v7, v8, v9, none, none] ∧ Same H1 H')
      ⟨_, _, _, rfl, Same.refl _⟩ (fun _ _ H' _ ⟨_, _, _, _, z⟩ => SqL.of (z _ _ (s1 _ _ hg))) ?_ ?_
    · rintro j x σ H2 hx ⟨v7, v8, v9, rfl, s2⟩
      obtain ⟨g, eg, dv⟩ := (dg.to (.of (s1.trans s2))).map' hx
      have step : ((m.gds.take (j + 1)).map (cdL (lpL l n) l.S n)).foldl spEnd (0, lpN l n) = spEnd (((m.gds.take j).map (cdL (lpL l n) l.S n)).foldl spEnd (0, lpN l n)) (cdL (lpL l n) l.S n g) := by
        rw [List.take_add_one, eg, List.map_append, List.foldl_append]
        rfl
      obtain ⟨q0, hq0⟩ : ∃ q0, q0 = ((m.gds.take j).map (cdL (lpL l n) l.S n)).foldl spEnd (0, lpN l n) := ⟨_, rfl⟩
      rw [step, ← hq0]
      refine normG (σ' := [some (.ref r), some (.ref t), some (.int n), some (.int q0.1), some (.int q0.2), some (.ref R), some (.int (lpL l n)), some x, v8, v9, none, none]) rfl ?_
      obtain ⟨a0, a1, c0, c1, d0, d1, x0, x1, z0, z1, u0, u1, S0, S1, _⟩ := id ok
      have okq := okg g (List.mem_of_getElem? eg)
      cases g with
      | rst a b c md rs =>
        obtain ⟨q2, rfl, hq2⟩ := dl_gr dv
        refine ⟨_, rfl, q2, _, _, _, rfl, rfl, SqT.of hq2, at0, rfl, _, rfl, if_no (by decide +kernel) ?_⟩
        exact ⟨_, _, _, rfl, s2⟩
      | lea a b c =>
        obtain ⟨q2, rfl, hq2⟩ := dl_gl dv
        obtain ⟨o1, o2, o3, o4, o5, o6⟩ := okq
        have hr2 := (s1.trans s2) _ _ h1
        refine ⟨_, rfl, q2, _, _, _, rfl, rfl, SqT.of hq2, at0, rfl, _, rfl, if_yes (by decide +kernel) ?_⟩
        refine ⟨_, rfl, q2, _, _, _, rfl, rfl, SqT.of hq2, at1, _, rfl, _, _, rfl, rfl, .inl ⟨by omega, by omega⟩, ?_⟩
        refine ⟨_, rfl, q2, _, _, _, rfl, rfl, SqT.of hq2, at2, _, rfl, _, _, rfl, rfl, .inl ⟨by omega, by omega⟩, _, _, rfl, rfl, ?_⟩
        refine ⟨_, rfl, q2, _, _, _, rfl, rfl, SqT.of hq2, at3, _, _, rfl, rfl, ?_⟩
        obtain ⟨W, hW⟩ : ∃ W, W = a * lpL l n + b * n + c := ⟨_, rfl⟩
        refine normG (σ' := [some (.ref r), some (.ref t), some (.int n), some (.int q0.1), some (.int q0.2), some (.ref R), some (.int (lpL l n)), some (.ref q2), some (.int W), v9, none, none]) (by rw [hW]; rfl) ?_
        try dsimp only
        refine ⟨_, rfl, q2, _, _, _, rfl, rfl, SqT.of hq2, at1, _, rfl, r, _, _, _, rfl, rfl, SqT.of hr2, at2, _, _, rfl, rfl, .inl ⟨by omega, by omega⟩, ?_⟩
        obtain ⟨G, hG⟩ : ∃ G, G = a * l.S := ⟨_, rfl⟩
        have Gb : G.natAbs < 1073741824 := by
          have : a * l.S ≤ 3 * 16 ∧ -(3 * 16) ≤ a * l.S := by
            have b1 : a = -3 ∨ a = -2 ∨ a = -1 ∨ a = 0 ∨ a = 1 ∨ a = 2 ∨ a = 3 := by omega
            rcases b1 with rfl | rfl | rfl | rfl | rfl | rfl | rfl <;> omega
          omega
        refine normG (σ' := [some (.ref r), some (.ref t), some (.int n), some (.int q0.1), some (.int q0.2), some (.ref R), some (.int (lpL l n)), some (.ref q2), some (.int W), some (.int G), none, none]) (by rw [hG]; rfl) ?_
        try dsimp only
        have es : spEnd q0 (cdL (lpL l n) l.S n (.lea a b c)) = leaEnd q0 W G := by rw [hW, hG]; rfl
        rw [es]
        unfold leaEnd
        refine ⟨_, rfl, _, _, rfl, rfl, _, rfl, ite2 (fun z => ?_) (fun z => ?_)⟩
        · have z := of_decide_eq_true z
          rw [if_pos z]
          refine ⟨_, rfl, _, rfl, _, rfl, _, _, rfl, rfl, ⟨by omega, Gb⟩, _, rfl, _, _, rfl, ?_⟩
          rw [mxI]
          exact ⟨_, _, _, rfl, s2⟩
        · rw [if_neg fun z2 => z (decide_eq_true z2)]
          have z := fun z2 => z (decide_eq_true z2)
          refine ⟨_, rfl, _, _, rfl, rfl, _, rfl, ite2 (fun y => ?_) (fun y => ?_)⟩
          · have y := of_decide_eq_true y
            rw [if_pos y]
            refine ⟨_, rfl, _, rfl, _, rfl, _, _, rfl, rfl, _, _, rfl, rfl, ⟨by omega, by omega⟩, _, _, rfl, rfl, _, _, rfl, ?_⟩
            rw [mnI]
            exact ⟨_, _, _, rfl, s2⟩
          · rw [if_neg fun z2 => y (decide_eq_true z2)]
            refine ⟨_, rfl, _, _, rfl, rfl, _, rfl, ite2 (fun x => ?_) (fun x => ?_)⟩
            · rw [if_pos (of_decide_eq_true x)]
              exact ⟨_, _, _, rfl, s2⟩
            · rw [if_neg fun z2 => x (decide_eq_true z2)]
              exact ⟨_, _, _, rfl, s2⟩
    rintro σ H2 ⟨v7, v8, v9, rfl, s2⟩
    rw [show xg.length = m.gds.length by rw [dg.len, List.length_map], List.take_length]
    obtain ⟨q0, hq0⟩ : ∃ q0, q0 = (m.gds.map (cdL (lpL l n) l.S n)).foldl spEnd (0, lpN l n) := ⟨_, rfl⟩
    rw [← hq0]
    have s12 := s1.trans s2
    refine ⟨_, rfl, t, _, _, _, rfl, rfl, SqT.of (s12 _ _ ht), at3, tg, rfl, ⟨_, SqL.of (s12 _ _ hg)⟩, fun D hD => ?_⟩
    have sD := Same.new (.lst []) (Same.refl H2) hD
    refine lc_list (K := K) (xs := xg) (fun j Hc => ∃ vs, Hc D = some (.lst vs) ∧ DLs Pd H vs (((m.gds.take j).filter isRst).map gdR) ∧ Same H2 Hc) ⟨[], upd_same, .nil, sD⟩ (fun i Hc _ z => SqL.of (z.choose_spec.2.2 _ _ (s12 _ _ hg))) ?_ ?_
    · rintro j v Hc hv0 ⟨vs, eD, dvs, sc⟩
      obtain ⟨g, eg, dv⟩ := dg.map' hv0
      have lim : vs.length ≤ 3 := by
        rw [dvs.len, List.length_map]
        exact Nat.le_trans (List.length_filter_le _ _) (by rw [List.length_take]; omega)
      have step := filt_snoc (p := isRst) eg
      cases g with
      | lea a b c =>
        obtain ⟨q2, rfl, hq2⟩ := dl_gl dv
        rw [if_neg (show ¬ isRst (.lea a b c) = true from Bool.false_ne_true), List.append_nil] at step
        rw [step]
        exact ⟨rfl, _, rfl, q2, _, _, _, rfl, rfl, SqT.of ((s12.trans sc) _ _ hq2), at0, rfl, _, rfl, if_no (by decide +kernel) ⟨vs, eD, dvs, sc⟩⟩
      | rst a b c md rs =>
        have dv0 := dv
        obtain ⟨q2, rfl, hq2⟩ := dl_gr dv
        rw [if_pos (show isRst (.rst a b c md rs) = true from rfl)] at step
        refine ⟨rfl, _, rfl, q2, _, _, _, rfl, rfl, SqT.of ((s12.trans sc) _ _ hq2), at0, rfl, _, rfl, if_yes (by decide +kernel) ⟨_, rfl, vs, eD, sz1m _ (by omega), vs ++ [.ref q2], upd_same, ?_, fun b o e => ?_⟩⟩
        · rw [step]
          exact dvs.snoc dv0
        · rw [upd_ne (ne_of_none e hD)]
          exact sc b o e
    rintro H3 ⟨vs, eD, dvs, sc⟩
    rw [show xg.length = m.gds.length by rw [dg.len, List.length_map], List.take_length] at dvs
    refine normG (σ' := [some (.ref r), some (.ref t), some (.int n), some (.int q0.1), some (.int q0.2), some (.ref R), some (.int (lpL l n)), v7, v8, v9, some (.ref D), none]) rfl ?_
    try dsimp only
    have s13 := s12.trans sc
    have eR3 := sc _ _ (s2 _ _ eR)
    have nDR : D ≠ R := fun z => by rw [z, s2 _ _ eR] at hD; cases hD
    refine ⟨12, rfl, by decide, by decide, ?_⟩
    refine for_range (lo := 0) (n := 12) (fun i σ H' => ∃ (v7 v8 v9 v11 : Option V), σ = [some (.ref r), some (.ref t), some (.int n), some (.int q0.1), some (.int q0.2), some (.ref R), some (.int (lpL l n)), v7, v8, v9, some (.ref D), v11] ∧ H' R = some (.lst (((r12.take i).filter (rstAt l n m.gds)).map V.int)) ∧ Keep R H3 H')
      ⟨_, _, _, _, rfl, eR3, Keep.refl _ _⟩ ?_ ?_
    · rintro i σ H4 hi ⟨w7, w8, w9, w11, rfl, eR4, k4⟩
      have nr : ∀ {a : Addr} {o : HO}, H a = some o → a ≠ R := fun e z => by rw [z, hR] at e; cases e
      refine normG (σ' := [some (.ref r), some (.ref t), some (.int n), some (.int q0.1), some (.int q0.2), some (.ref R), some (.int (lpL l n)), w7, w8, w9, some (.ref D), some (.int (0 + (i : Int)))]) rfl ?_
      have eD4 := k4 _ _ nDR eD
      refine ⟨_, rfl, D, rfl, ⟨_, SqL.of eD4⟩, fun D5 hD5 => ?_⟩
      have s04 : Same H H4 := fun a o e => k4 _ _ (nr e) (s13 _ _ e)
      obtain ⟨_, _, _, _, _, _, _, _, _, _, _, _, S0, S1, _⟩ := id ok
      refine lc_list (K := K) (xs := vs) (fun j Hc => ∃ us, Hc D5 = some (.lst us) ∧ us.length = (((m.gds.filter isRst).take j).filter fun g => !gdV g (lpL l n + l.S * (0 + (i : Int))) n).length ∧ Same H4 Hc) ⟨[], upd_same, rfl, Same.new _ (Same.refl H4) hD5⟩ (fun j Hc _ z => SqL.of (z.choose_spec.2.2 _ _ eD4)) ?_ ?_
      · rintro j x Hc hx ⟨us, eU, lu, s5⟩
        obtain ⟨g, eg, dv⟩ := dvs.map' hx
        have mg : g ∈ m.gds := (List.mem_filter.mp (List.mem_of_getElem? eg)).1
        have step := filt_snoc (p := fun g => !gdV g (lpL l n + l.S * (0 + (i : Int))) n) eg
        have lim : us.length ≤ 3 := by
          rw [lu]
          refine Nat.le_trans (List.length_filter_le _ _) (Nat.le_trans (by rw [List.length_take]; exact Nat.min_le_right _ _) (Nat.le_trans (List.length_filter_le _ _) lg))
        refine ⟨rfl, _, rfl, _, rfl, _, rfl, r, _, _, _, rfl, rfl, SqT.of ((s04.trans s5) _ _ h1), at2, _, rfl, _, _, rfl, rfl, .inl ⟨by omega, by omega⟩, _, _, rfl, rfl, _, rfl, Pd, x, g, _, n, rfl, dv.to (.of (s04.trans s5)), okg g mg, _, rfl, ite2 (fun z => ?_) (fun z => ?_)⟩
        · rw [if_pos z] at step
          refine ⟨_, rfl, us, eU, sz1m _ (by omega), us ++ [x], upd_same, ?_, fun b o e => ?_⟩
          · rw [step, List.length_append, List.length_append, lu]
            rfl
          · rw [upd_ne (ne_of_none e hD5)]
            exact s5 b o e
        · rw [if_neg z, List.append_nil] at step
          rw [step]
          exact ⟨us, eU, lu, s5⟩
      rintro H5 ⟨us, eU, lu, s5⟩
      have lvs : vs.length = (m.gds.filter isRst).length := by rw [dvs.len, List.length_map]
      rw [lvs, List.take_length] at lu
      have e0 : decide (V.int (us.length : Int) = V.int 0) = rstAt l n m.gds (i : Int) := by
        rw [lu, Int.zero_add, Int.mul_comm]
        exact all_none _ _
      refine ⟨D5, us, rfl, .inl (SqL.of eU), rfl, _, rfl, ?_⟩
      have eR5 := s5 _ _ eR4
      have step := filt_snoc (p := rstAt l n m.gds) (r12_at i hi)
      rw [e0]
      by_cases z : rstAt l n m.gds (i : Int) = true
      · refine if_yes z ?_
        rw [if_pos z] at step
        refine ⟨_, rfl, .inl ⟨rfl, _, SqL.of eR5⟩, _, rfl, R, _, _, rfl, rfl, eR5, sz1m _ ?_, ⟨_, _, _, _, rfl, upd_same.trans ?_, fun a o na e => by rw [upd_ne na]; exact s5 _ _ (k4 _ _ na e)⟩⟩
        · rw [List.length_map]
          exact Nat.lt_of_le_of_lt (List.length_filter_le _ _) (Nat.lt_of_le_of_lt (by rw [List.length_take]; exact Nat.min_le_left _ _) (Nat.lt_trans hi (by decide)))
        · rw [step, List.map_append, Int.zero_add]
          rfl
      · refine if_no (Bool.eq_false_iff.mpr z) ?_
        rw [if_neg z, List.append_nil] at step
        rw [step]
        exact ⟨_, _, _, _, rfl, eR5, k4.trans (Keep.of s5)⟩
    rintro σ H4 ⟨w7, w8, w9, w11, rfl, eR4, k4⟩
    have s04 : Same H H4 := fun a o e => k4 _ _ (fun z => by rw [z, hR] at e; cases e) (s13 _ _ e)
    refine ⟨_, rfl, _, rfl, _, rfl, _, _, rfl, _, rfl, sz3, fun tt htt => ?_⟩
    rw [mxI]
    have s6 := Same.new (.tup [.int q0.1, .int (max q0.1 q0.2), .ref R]) (Same.refl H4) htt
    refine k tt _ (s04.trans s6) ⟨R, upd_same.trans ?_, (s6 _ _ eR4).trans ?_⟩
    · have e1 : (spanT l n m.gds).lo = q0.1 := by rw [hq0]; rfl
      have e2 : (spanT l n m.gds).hi = max q0.1 q0.2 - 1 := by rw [hq0]; rfl
      rw [e1, e2, Int.sub_add_cancel]
    · have e3 : (spanT l n m.gds).rs = (r12.take 12).filter (rstAt l n m.gds) := by
        show spRs _ = _
        unfold spRs
        rw [show r12.take 12 = r12 from rfl]
        congr 1
        funext u
        exact (rstAt_is l n m.gds u).symm
      rw [e3]
end
end K35
set_option maxHeartbeats 4000000
namespace K35
open PySem PySem.Spec PyProof.Rows L2 Z
def spLMany : Sp := fun vs H Q _ => ∃ (Pd : Addr → Prop) (r : Addr) (xs : List V) (ls : List LpM) (n : Int), vs = [.ref r, .int n] ∧ H r = some (.lst xs) ∧ DLs Pd H xs (ls.map lpR) ∧ ls.length ≤ 6 ∧ (∀ l ∈ ls, LpOk l) ∧ ∀ H', Same H H' → Q (.int ((works ls n).length : Int)) H'
def spOfSt : Sp := fun vs H Q _ => ∃ (Pd : Addr → Prop) (v u : V) (l : LpM) (s : StM) (n : Int), vs = [v, u, .int n] ∧ DL Pd H v (lpR l) ∧ DL Pd H u (stR s) ∧ LpOk l ∧ StOk s ∧ ∀ H', Same H H' → Q (.int ((dtn l n s.gds).below (lpN l n) : Int)) H'
def spAhead : Sp := fun vs H Q _ => ∃ (Pd : Addr → Prop) (v u : V) (l : LpM) (s : StM) (n : Int) (t : Nat), vs = [v, u, .int n, .int (if l.dn = true then lpN l n - 1 - t else t)] ∧ DL Pd H v (lpR l) ∧ DL Pd H u (stR s) ∧ LpOk l ∧ StOk s ∧ (t : Int) < lpN l n ∧ ∀ H', Same H H' → Q (.int ((dtn l n s.gds).below (t : Int) : Int)) H'
theorem stOk_gds {s : StM} (h : StOk s) : ∀ g ∈ s.gds, GdOk g := by
  obtain ⟨_, _, _, _, _, _, _, okg⟩ := h
  exact okg
theorem span_ok {l : LpM} {n : Int} {gds : List Gd} : RsOk (spanT l n gds).rs ∧ 0 ≤ (spanT l n gds).lo ∧ (spanT l n gds).lo ≤ (spanT l n gds).hi + 1 ∧ (spanT l n gds).rs.length ≤ 12 :=
  ⟨spRs_ok _, spTn_lo, spTn_end, Nat.le_trans (List.length_filter_le _ _) (by decide)⟩
theorem all_span {l : LpM} {n : Int} (ok : ∀ s ∈ l.sts, StOk s) : (l.sts.map fun s => ((spanT l n s.gds).below (lpN l n) : Int)).sum = (allOf (cols l n) : Int) := by
  obtain ⟨N, hN⟩ : ∃ N : Nat, lpN l n = (N : Int) := ⟨(lpN l n).toNat, by have := lpN_0 l n; omega⟩
  have e1 : (l.sts.map fun s => ((spanT l n s.gds).below (lpN l n) : Int)) = l.sts.map fun s => (((dtn l n s.gds).below (N : Int) : Nat) : Int) := List.map_congr_left fun s hs => by
    rw [dtn_all (stOk_gds (ok s hs)), hN]
  have e2 := wb_all (cols := cols l n) (u := N) (fun T hT => (cols_good T hT).lo) (fun T hT => by have := cols_hi T hT; rw [hN] at this; exact this)
  rw [e1, sum_cast, ← e2]
  unfold wb cols
  rw [List.map_map]
  rfl
theorem ahead_sum {l : LpM} {n : Int} {t : Nat} : (l.sts.map fun s => (((dtn l n s.gds).below (t : Int) : Nat) : Int)).sum = (wb (cols l n) t : Int) := by
  rw [sum_cast]
  unfold wb cols
  rw [List.map_map]
  rfl
section
variable {P : Program} {w : World} {K : PySem.W.Frag} {mg : Str → Option Value} {base : Heap}
theorem sc_law_below : FnScope ["_law_span_here", "_law_turn", "_law_stop", "_law_rest"] ["_law_span_here", "_law_turn"] (defScope s_law_below) := ⟨rfl, rfl, rfl, by decide +kernel, rfl, by decide +kernel, by decide +kernel⟩
theorem ok_lbelow {f : Addr} {fd : FuncData} (F : FnP K "_law_below" s_law_below f fd) (T : LwTx K mg) : FnOk P w K mg base CX0 1 f fd ["_law_span_here", "_law_turn"] spLBelow := by
  refine F.ok sc_law_below (fun vs H Q E h => ?_) (fun cdv A outer s H vs Q E hr h => ?_)
  · obtain ⟨t, U, i, rfl, _⟩ := h
    rfl
  · obtain ⟨t, U, i, rfl, ⟨R, ht, hR⟩, rok, lo0, lohi, i0, l12, k⟩ := h
    refine ⟨_, PSs.nox (pss_cons (ps_set (i := 2) sc_law_below.nd rfl (Or.inr rfl) (pe_callB (call_min2 rfl) (by rfl) T.min (by decide +kernel) (pa_cons (pe_callB (call_max2 rfl) (by rfl) T.max (by decide +kernel) (pa_cons (pv 1) (pa_cons (pe_ix (ix_tupK (K := K) rfl) (pv 0) pe_int (fun _ _ => rfl)) pa_nil))) (pa_cons (pe_ix (ix_tupK (K := K) rfl) (pv 0) pe_int (fun _ _ => rfl)) pa_nil))))
      (pss_one (ps_ret (pe_callB (cr_sum rfl) (by rfl) T.sum (by decide +kernel) (pa_cons (pe_lc (own := [("_law_rest", 3)]) (g := gName 3) (tt := tYes) rfl sc_law_below.nd (pi_list (pe_ix (ix_tupK (K := K) rfl) (pv 0) pe_int (fun _ _ => rfl))) (blkOk_by (N := ["_law_span_here", "_law_turn", "_law_stop", "_law_rest"]) (sc := defScope s_law_below) (by decide +kernel)) (fun _ _ _ _ _ => (pg_name (i := 3) sc_law_below.nd rfl (.inl rfl))) (fun _ _ _ _ _ => pts_nil) (fun _ _ _ _ _ => (pe_op op_sub (pe_op op_fdivN (pe_op op_add (pe_op op_sub (pv 2) (pv 3)) pe_int) pe_int) (pe_op op_fdivN (pe_op op_add (pe_op op_sub (pe_ix (ix_tupK (K := K) rfl) (pv 0) pe_int (fun _ _ => rfl)) (pv 3)) pe_int) pe_int)))) pa_nil))))), ?_⟩
    refine ⟨_, rfl, _, rfl, t, _, _, _, rfl, rfl, SqT.of ht, at0, _, _, rfl, _, rfl, t, _, _, _, rfl, rfl, SqT.of ht, at1, _, _, rfl, ?_⟩
    rw [mxI, mnI]
    refine normG (σ' := [some (.ref t), some (.int i), some (.int (min (max i U.lo) (U.hi + 1))), none]) rfl ?_
    try dsimp only
    refine ⟨_, rfl, t, _, _, _, rfl, rfl, SqT.of ht, at2, R, rfl, ⟨_, SqL.of hR⟩, fun D hD => ?_⟩
    refine lc_list (K := K) (xs := U.rs.map V.int) (fun b Hb => Hb D = some (.lst (((U.rs.take b).map fun r => (min (max i U.lo) (U.hi + 1) - r + 11).fdiv 12 - (U.lo - r + 11).fdiv 12).map V.int)) ∧ Same H Hb) ⟨upd_same, Same.new _ (Same.refl H) hD⟩ (fun b Hb _ z => SqL.of (z.2 _ _ hR)) ?_ ?_
    · rintro b v Hb hv ⟨eD, sb⟩
      rw [List.getElem?_map] at hv
      obtain ⟨y, hy, rfl⟩ := Option.map_eq_some_iff.mp hv
      have hb : b < U.rs.length := (List.getElem?_eq_some_iff.mp hy).1
      refine ⟨rfl, yes_of ?_⟩
      refine ⟨_, rfl, _, rfl, _, _, rfl, rfl, _, _, rfl, rfl, _, _, rfl, rfl, ⟨by decide, by decide⟩, _, rfl, t, _, _, _, rfl, rfl, SqT.of (sb _ _ ht), at0, _, rfl, _, _, rfl, rfl, _, _, rfl, rfl, _, _, rfl, rfl, ⟨by decide, by decide⟩, _, _, rfl, rfl, ?_⟩
      refine ⟨_, eD, sz1m _ (by rw [List.length_map, List.length_map, List.length_take]; omega), ?_, fun b' o e => ?_⟩
      · rw [upd_same, List.take_add_one, hy, List.map_append, List.map_append]
        rfl
      · rw [upd_ne (ne_of_none e hD)]
        exact sb _ _ e
    · rintro H3 ⟨eD, sb⟩
      rw [List.length_map, List.take_length] at eD
      refine ⟨D, _, rfl, SqL.of eD, ?_⟩
      have z := spBel_is rok lo0 lohi i0
      unfold spBel at z
      rw [z]
      exact k _ sb
theorem sc_law_many : FnScope ["_law_rows", "_law_n", "_law_found", "_law_loop_here", "_law_one"] ["_law_rows", "_law_n"] (defScope s_law_many) := ⟨rfl, rfl, rfl, by decide +kernel, rfl, by decide +kernel, by decide +kernel⟩
theorem ok_lmany {f : Addr} {fd : FuncData} (F : FnP K "_law_many" s_law_many f fd) (T : LwTx K mg) (dSpan : Dn P w K mg base 3 "_law_span" ["_law_loop_here", "_law_statement_here", "_law_n"] spSpan) (dLBelow : Dn P w K mg base 1 "_law_below" ["_law_span_here", "_law_turn"] spLBelow) (dLTurns : Dn P w K mg base 2 "_law_turns" ["_law_loop_here", "_law_n"] spLTurns) :
    FnOk P w K mg base CX0 4 f fd ["_law_rows", "_law_n"] spLMany := by
  refine F.ok sc_law_many (fun vs H Q E h => ?_) (fun cdv A outer s H vs Q E hr h => ?_)
  · obtain ⟨Pd, r, xs, ls, n, rfl, _⟩ := h
    rfl
  · obtain ⟨Pd, r, xs, ls, n, rfl, hr0, ds, l6, ok, k⟩ := h
    refine ⟨_, PSs.nox (pss_cons (ps_set (i := 2) sc_law_many.nd rfl (Or.inl rfl) pe_int)
      (pss_cons (ps_for PassesOwn.never rfl (pi_list (pv 0)) (pg_name (i := 3) sc_law_many.nd rfl (.inr rfl)) (pss_one (ps_set (i := 2) sc_law_many.nd rfl (Or.inl rfl) (pe_op op_add (pv 2) (pe_callB (cr_sum rfl) (by rfl) T.sum (by decide +kernel) (pa_cons (pe_lc (own := [("_law_one", 4)]) (g := gName 4) (tt := tYes) rfl sc_law_many.nd (pi_list (pe_ix (ix_tupK (K := K) rfl) (pv 3) pe_int (fun _ _ => rfl))) (blkOk_by (N := ["_law_rows", "_law_n", "_law_found", "_law_loop_here", "_law_one"]) (sc := defScope s_law_many) (by decide +kernel)) (fun _ _ _ _ _ => (pg_name (i := 4) sc_law_many.nd rfl (.inl rfl))) (fun _ _ _ _ _ => pts_nil) (fun _ _ _ _ _ => (pe_dn dLBelow hr (pa_cons (pe_dn dSpan hr (pa_cons (pv 3) (pa_cons (pv 4) (pa_cons (pv 1) pa_nil)))) (pa_cons (pe_dn dLTurns hr (pa_cons (pv 3) (pa_cons (pv 1) pa_nil))) pa_nil))))) pa_nil))))))
      (pss_one (ps_ret (pv 2))))), ?_⟩
    refine normG (σ' := [some (.ref r), some (.int n), some (.int 0), none, none]) rfl ?_
    try dsimp only
    have lxs : xs.length = ls.length := by rw [ds.len, List.length_map]
    refine ⟨_, rfl, r, rfl, ⟨_, SqL.of hr0⟩, ?_⟩
    refine for_list (K := K) (xs := xs) (fun j σ H' => ∃ (v3 v4 : Option V), σ = [some (.ref r), some (.int n), some (.int (pre (tabsOf ls n) j : Int)), v3, v4] ∧ Same H H') ⟨_, _, rfl, Same.refl H⟩ (fun _ _ H' _ ⟨_, _, _, z⟩ => SqL.of (z _ _ hr0)) ?_ ?_
    · rintro j x σ H1 hx ⟨v3, v4, rfl, s1⟩
      obtain ⟨l, hl, dv⟩ := (ds.to (.of s1)).map' hx
      have okl := ok l (List.mem_of_getElem? hl)
      obtain ⟨n3, okS⟩ := lpOk_st okl
      have dv1 := dv
      obtain ⟨q, q1, q2, ts, ys, rfl, h1, h2, h3, hts, dst⟩ := dl_lp dv
      have lys : ys.length = l.sts.length := by rw [dst.len, List.length_map]
      refine normG (σ' := [some (.ref r), some (.int n), some (.int (pre (tabsOf ls n) j : Int)), some (.ref q), v4]) rfl ?_
      refine ⟨_, rfl, _, rfl, q, _, _, _, rfl, rfl, SqT.of h1, at4, ts, rfl, ⟨_, SqL.of hts⟩, fun D hD => ?_⟩
      refine lc_list (K := K) (xs := ys) (fun b Hb => Hb D = some (.lst (((l.sts.take b).map fun s => ((spanT l n s.gds).below (lpN l n) : Int)).map V.int)) ∧ Same H1 Hb) ⟨upd_same, Same.new _ (Same.refl H1) hD⟩ (fun b Hb _ z => SqL.of (z.2 _ _ hts)) ?_ ?_
      · rintro b v Hb hv ⟨eD, sb⟩
        obtain ⟨m, hm, dm⟩ := (dst.to (.of sb)).map' hv
        have hb : b < l.sts.length := (List.getElem?_eq_some_iff.mp hm).1
        obtain ⟨o1, o2, o3, o4⟩ := span_ok (l := l) (n := n) (gds := m.gds)
        refine ⟨rfl, yes_of ?_⟩
        refine ⟨_, rfl, _, rfl, _, rfl, Pd, _, v, l, m, n, rfl, dv1.to (.of sb), dm, okl, okS m (List.mem_of_getElem? hm), fun sp H2 s2 a2 => ⟨_, rfl, _, rfl, Pd, _, l, n, rfl, dv1.to (.of (sb.trans s2)), okl, sp, _, _, rfl, a2, o1, o2, o3, lpN_0 l n, o4, fun H3 s3 => ?_⟩⟩
        have eD3 := s3 _ _ (s2 _ _ eD)
        refine ⟨_, eD3, sz1m _ (by rw [List.length_map, List.length_map, List.length_take]; omega), ?_, fun b' o e => ?_⟩
        · rw [upd_same, List.take_add_one, hm, List.map_append, List.map_append]
          rfl
        · rw [upd_ne (ne_of_none e hD)]
          exact s3 _ _ (s2 _ _ (sb _ _ e))
      · rintro H3 ⟨eD, sb⟩
        rw [lys, List.take_length] at eD
        refine ⟨D, _, rfl, SqL.of eD, _, _, rfl, rfl, ?_⟩
        rw [all_span okS]
        refine ⟨some (.ref q), v4, ?_, s1.trans sb⟩
        rw [pre_succ (cs := cols l n) (by unfold tabsOf; rw [List.getElem?_map, hl]; rfl), Int.natCast_add]
        rfl
    · rintro σ H1 ⟨v3, v4, rfl, s1⟩
      refine ⟨_, rfl, ?_⟩
      rw [lxs, ← works_len fun l hl => (lpOk_st (ok l hl)).2]
      exact k _ s1
theorem sc_law_of_statement : FnScope ["_law_loop_here", "_law_statement_here", "_law_n"] ["_law_loop_here", "_law_statement_here", "_law_n"] (defScope s_law_of_statement) := ⟨rfl, rfl, rfl, by decide +kernel, rfl, by decide +kernel, by decide +kernel⟩
theorem ok_ofSt {f : Addr} {fd : FuncData} (F : FnP K "_law_of_statement" s_law_of_statement f fd) (dSpan : Dn P w K mg base 3 "_law_span" ["_law_loop_here", "_law_statement_here", "_law_n"] spSpan) (dLBelow : Dn P w K mg base 1 "_law_below" ["_law_span_here", "_law_turn"] spLBelow) (dLTurns : Dn P w K mg base 2 "_law_turns" ["_law_loop_here", "_law_n"] spLTurns) :
    FnOk P w K mg base CX0 4 f fd ["_law_loop_here", "_law_statement_here", "_law_n"] spOfSt := by
  refine F.ok sc_law_of_statement (fun vs H Q E h => ?_) (fun cdv A outer s H vs Q E hr h => ?_)
  · obtain ⟨Pd, v, u, l, m, n, rfl, _⟩ := h
    rfl
  · obtain ⟨Pd, v, u, l, m, n, rfl, hv, hu, ok, oks, k⟩ := h
    refine ⟨_, PSs.nox (pss_one (ps_ret (pe_dn dLBelow hr (pa_cons (pe_dn dSpan hr (pa_cons (pv 0) (pa_cons (pv 1) (pa_cons (pv 2) pa_nil)))) (pa_cons (pe_dn dLTurns hr (pa_cons (pv 0) (pa_cons (pv 2) pa_nil))) pa_nil))))), ?_⟩
    refine ⟨_, rfl, _, rfl, _, rfl, Pd, v, u, l, m, n, rfl, hv, hu, ok, oks, fun t H1 s1 sp => ?_⟩
    refine ⟨_, rfl, _, rfl, Pd, v, l, n, rfl, hv.to (.of s1), ok, ?_⟩
    obtain ⟨o1, o2, o3, o4⟩ := span_ok (l := l) (n := n) (gds := m.gds)
    refine ⟨t, _, _, rfl, sp, o1, o2, o3, lpN_0 l n, o4, fun H2 s2 => ?_⟩
    rw [dtn_all (stOk_gds oks)]
    exact k H2 (s1.trans s2)
theorem sc_law_ahead : FnScope ["_law_loop_here", "_law_statement_here", "_law_n", "_law_turn", "_law_span_here"] ["_law_loop_here", "_law_statement_here", "_law_n", "_law_turn"] (defScope s_law_ahead) := ⟨rfl, rfl, rfl, by decide +kernel, rfl, by decide +kernel, by decide +kernel⟩
theorem ok_ahead {f : Addr} {fd : FuncData} (F : FnP K "_law_ahead" s_law_ahead f fd) (T : LwTx K mg) (dSpan : Dn P w K mg base 3 "_law_span" ["_law_loop_here", "_law_statement_here", "_law_n"] spSpan) (dLBelow : Dn P w K mg base 1 "_law_below" ["_law_span_here", "_law_turn"] spLBelow) (dLTurns : Dn P w K mg base 2 "_law_turns" ["_law_loop_here", "_law_n"] spLTurns) :
    FnOk P w K mg base CX0 4 f fd ["_law_loop_here", "_law_statement_here", "_law_n", "_law_turn"] spAhead := by
  refine F.ok sc_law_ahead (fun vs H Q E h => ?_) (fun cdv A outer s H vs Q E hr h => ?_)
  · obtain ⟨Pd, v, u, l, m, n, t, rfl, _⟩ := h
    rfl
  · obtain ⟨Pd, v, u, l, m, n, t, rfl, hv, hu, ok, oks, tN, k⟩ := h
    refine ⟨_, PSs.nox (pss_cons (ps_set (i := 4) sc_law_ahead.nd rfl (Or.inl rfl) (pe_dn dSpan hr (pa_cons (pv 0) (pa_cons (pv 1) (pa_cons (pv 2) pa_nil)))))
      (pss_cons (ps_if (pt_val (pe_ix (ix_tupK (K := K) rfl) (pv 0) pe_int (fun _ _ => rfl))) (pss_one (ps_ret (pe_op op_sub (pe_dn dLBelow hr (pa_cons (pv 4) (pa_cons (pe_dn dLTurns hr (pa_cons (pv 0) (pa_cons (pv 2) pa_nil))) pa_nil))) (pe_dn dLBelow hr (pa_cons (pv 4) (pa_cons (pe_op op_add (pv 3) pe_int) pa_nil)))))) pss_nil)
      (pss_one (ps_ret (pe_dn dLBelow hr (pa_cons (pv 4) (pa_cons (pv 3) pa_nil))))))), ?_⟩
    refine ⟨_, rfl, _, rfl, _, rfl, Pd, v, u, l, m, n, rfl, hv, hu, ok, oks, fun sp H1 s1 at1 => ?_⟩
    obtain ⟨o1, o2, o3, o4⟩ := span_ok (l := l) (n := n) (gds := m.gds)
    have hv1 := hv.to (.of s1)
    obtain ⟨r, t1, t2, ts, xs, rfl, h1, h2, h3, _, _⟩ := dl_lp hv1
    have db := dtn_below (l := l) (n := n) (stOk_gds oks) (t := t) (by omega)
    rw [db] at k
    refine normG (σ' := [some (.ref r), some u, some (.int n), some (.int (if l.dn = true then lpN l n - 1 - t else t)), some (.ref sp)]) rfl ?_
    try dsimp only
    refine ⟨_, rfl, r, _, _, _, rfl, rfl, SqT.of h1, at3, ?_⟩
    cases hd : l.dn with
    | true =>
      rw [hd, if_pos rfl] at k
      refine ⟨_, rfl, iteT ⟨_, rfl, _, rfl, _, rfl, Pd, _, l, n, rfl, hv1, ok, sp, _, _, rfl, at1, o1, o2, o3, lpN_0 l n, o4, fun H2 s2 => ?_⟩⟩
      refine ⟨_, rfl, _, rfl, _, _, rfl, rfl, sp, _, _, rfl, at1.same s2, o1, o2, o3, ?_, o4, fun H3 s3 => ⟨_, _, rfl, rfl, ?_⟩⟩
      · rw [if_pos rfl]
        omega
      · rw [if_pos rfl, show lpN l n - 1 - (t : Int) + 1 = lpN l n - t by omega]
        exact k H3 ((s1.trans s2).trans s3)
    | false =>
      rw [hd, if_neg Bool.false_ne_true] at k
      refine ⟨_, rfl, iteF (un_next ?_)⟩
      refine ⟨_, rfl, _, rfl, sp, _, _, rfl, at1, o1, o2, o3, ?_, o4, fun H2 s2 => ?_⟩
      · rw [if_neg Bool.false_ne_true]
        omega
      · rw [if_neg Bool.false_ne_true]
        exact k H2 (s1.trans s2)
end
end K35
set_option maxHeartbeats 4000000
namespace K35
open PySem PySem.Spec PyProof.Rows L2 Z
def spLNumber : Sp := fun vs H Q _ => ∃ (Pd : Addr → Prop) (r tw : Addr) (xs : List V) (ls : List LpM) (n : Int) (w : W3) (k : Nat), vs = [.ref r, .int n, .ref tw] ∧ H r = some (.lst xs) ∧ DLs Pd H xs (ls.map lpR) ∧ ls.length ≤ 6 ∧ (∀ l ∈ ls, LpOk l) ∧ H tw = some (.tup [.int w.1, .int w.2.1, .int w.2.2]) ∧ (works ls n)[k]? = some w ∧
  ∀ H', Same H H' → Q (.int (k : Int)) H'
theorem cutK (xs : List V) (k : Nat) : cutV xs none (some (k : Int)) = xs.take k := by
  unfold cutV
  rw [HT.sIx_none, HT.sIx_nat, List.drop_zero, Nat.sub_zero]
  by_cases h : k ≤ xs.length
  · rw [Nat.min_eq_left h]
  · rw [Nat.min_eq_right (by omega), List.take_length, List.take_of_length_le (by omega)]
theorem pre_take {ls : List LpM} {n : Int} {a : Nat} (ok : ∀ l ∈ ls, LpOk l) (h : a ≤ ls.length) : (works (ls.take a) n).length = pre (tabsOf ls n) a := by
  rw [works_len fun l hl => (lpOk_st (ok l (List.mem_of_mem_take hl))).2]
  unfold pre tabsOf
  rw [List.length_take, Nat.min_eq_left h, List.take_of_length_le (by rw [List.length_map, List.length_take]; omega), List.map_take]
theorem done_cnt {l : LpM} {n : Int} {t s : Nat} (ok : ∀ s ∈ l.sts, StOk s) (tN : (t : Int) < lpN l n) : (((cols l n).take s).filter fun T => T.has (t : Int)).length = ((l.sts.take s).filter fun m => stDone m (ctr l n t) n).length := by
  unfold cols
  rw [← List.map_take, List.filter_map, List.length_map]
  congr 1
  refine List.filter_congr fun m hm => ?_
  show (dtn l n m.gds).has (t : Int) = _
  rw [dtn_has (stOk_gds (ok m (List.mem_of_mem_take hm))), decide_eq_true (show (0 : Int) ≤ (t : Int) by omega), decide_eq_true tN]
  rfl
section
variable {P : Program} {w : World} {K : PySem.W.Frag} {mg : Str → Option Value} {base : Heap}
theorem sc_law_number : FnScope ["_law_rows", "_law_n", "_law_work", "_law_turn", "_law_loop_here", "_law_found", "_law_one"] ["_law_rows", "_law_n", "_law_work"] (defScope s_law_number) := ⟨rfl, rfl, rfl, by decide +kernel, rfl, by decide +kernel, by decide +kernel⟩
theorem ok_lnumber {f : Addr} {fd : FuncData} (F : FnP K "_law_number" s_law_number f fd) (T : LwTx K mg) (dLTurnOf : Dn P w K mg base 3 "_law_turn_of" ["_law_rows", "_law_n", "_law_work"] spLTurnOf) (dLMany : Dn P w K mg base 4 "_law_many" ["_law_rows", "_law_n"] spLMany)
    (dAhead : Dn P w K mg base 4 "_law_ahead" ["_law_loop_here", "_law_statement_here", "_law_n", "_law_turn"] spAhead) (dLDone : Dn P w K mg base 2 "_law_done" ["_law_statement_here", "_law_i", "_law_n"] spLDone) :
    FnOk P w K mg base CX0 5 f fd ["_law_rows", "_law_n", "_law_work"] spLNumber := by
  refine F.ok sc_law_number (fun vs H Q E h => ?_) (fun cdv A outer s H vs Q E hr h => ?_)
  · obtain ⟨Pd, r, tw, xs, ls, n, w, k, rfl, _⟩ := h
    rfl
  · obtain ⟨Pd, r, tw, xs, ls, n, w, k, rfl, hr0, ds, l6, ok, htw, hk, q⟩ := h
    refine ⟨_, PSs.nox (pss_cons (ps_set (i := 3) sc_law_number.nd rfl (Or.inr rfl) (pe_dn dLTurnOf hr (pa_cons (pv 0) (pa_cons (pv 1) (pa_cons (pv 2) pa_nil)))))
      (pss_cons (ps_if (pt_cmpR op_isN (pv 3) pe_non (nomark _)) (pss_one (ps_ret (pe_un un_neg pe_int))) pss_nil)
      (pss_cons (ps_set (i := 4) sc_law_number.nd rfl (Or.inr rfl) (pe_ix ix_list (pv 0) (pe_ix (ix_tupK (K := K) rfl) (pv 2) pe_int (fun _ _ => rfl)) (fun _ _ => rfl)))
      (pss_cons (ps_set (i := 5) sc_law_number.nd rfl (Or.inl rfl) (pe_op op_add (pe_dn dLMany hr (pa_cons (pe_slice sl_list (pv 0) po_none (po_some (pe_ix (ix_tupK (K := K) rfl) (pv 2) pe_int (fun _ _ => rfl)))) (pa_cons (pv 1) pa_nil))) (pe_callB (cr_sum rfl) (by rfl) T.sum (by decide +kernel) (pa_cons (pe_lc (own := [("_law_one", 6)]) (g := gName 6) (tt := tYes) rfl sc_law_number.nd (pi_list (pe_ix (ix_tupK (K := K) rfl) (pv 4) pe_int (fun _ _ => rfl))) (blkOk_by (N := ["_law_rows", "_law_n", "_law_work", "_law_turn", "_law_loop_here", "_law_found", "_law_one"]) (sc := defScope s_law_number) (by decide +kernel)) (fun _ _ _ _ _ => (pg_name (i := 6) sc_law_number.nd rfl (.inl rfl))) (fun _ _ _ _ _ => pts_nil) (fun _ _ _ _ _ => (pe_dn dAhead hr (pa_cons (pv 4) (pa_cons (pv 6) (pa_cons (pv 1) (pa_cons (pv 3) pa_nil))))))) pa_nil))))
      (pss_one (ps_ret (pe_op op_add (pv 5) (pe_callB (call_len_seqK (K := K) rfl) (by rfl) T.len PySem.boot_len (pa_cons (pe_lc (own := [("_law_one", 6)]) (g := gName 6) rfl sc_law_number.nd (pi_list (pe_slice sl_list (pe_ix (ix_tupK (K := K) rfl) (pv 4) pe_int (fun _ _ => rfl)) po_none (po_some (pe_ix (ix_tupK (K := K) rfl) (pv 2) pe_int (fun _ _ => rfl))))) (blkOk_by (N := ["_law_rows", "_law_n", "_law_work", "_law_turn", "_law_loop_here", "_law_found", "_law_one"]) (sc := defScope s_law_number) (by decide +kernel)) (fun _ _ _ _ _ => (pg_name (i := 6) sc_law_number.nd rfl (.inl rfl))) (fun _ _ _ _ _ => (pts_one (pt_val (pe_dn dLDone hr (pa_cons (pv 6) (pa_cons (pe_ix (ix_tupK (K := K) rfl) (pv 2) pe_int (fun _ _ => rfl)) (pa_cons (pv 1) pa_nil))))))) (fun _ _ _ _ _ => (pv 6))) pa_nil))))))))), ?_⟩
    obtain ⟨a, l, t, i, s', hl, ht, hdn, ek, rfl⟩ := works_pos ok hk
    have okl := ok l (List.mem_of_getElem? hl)
    obtain ⟨n3, okS⟩ := lpOk_st okl
    obtain ⟨_, sm, hs, hd⟩ := dn_turn (List.mem_of_getElem? hdn) okS
    have S0 := S_ok okl
    have al := (List.getElem?_eq_some_iff.mp hl).1
    have sl := (List.getElem?_eq_some_iff.mp hs).1
    have lxs : xs.length = ls.length := by rw [ds.len, List.length_map]
    dsimp only at htw
    have eu : (ctr l n (t : Int) - lpL l n).fdiv l.S = (if l.dn = true then lpN l n - 1 - (t : Int) else (t : Int)) := by
      unfold ctr
      rw [show ∀ x y : Int, x + y - x = y by intro x y; omega]
      exact Int.mul_fdiv_cancel _ (by omega)
    refine ⟨_, rfl, _, rfl, _, rfl, Pd, r, tw, xs, ls, n, _, k, rfl, hr0, ds, ok, htw, hk, fun a' l' H1 ea hl' s1 => ?_⟩
    have ea : (a : Int) = (a' : Int) := ea
    obtain rfl : a = a' := by omega
    rw [hl] at hl'
    cases hl'
    try dsimp only
    rw [eu]
    obtain ⟨U, hU⟩ : ∃ U : Int, U = if l.dn = true then lpN l n - 1 - (t : Int) else (t : Int) := ⟨_, rfl⟩
    rw [← hU]
    refine normG (σ' := [some (.ref r), some (.int n), some (.ref tw), some (.int U), none, none, none]) rfl ?_
    try dsimp only
    refine ⟨_, rfl, rfl, _, rfl, if_no rfl ?_⟩
    refine un_next ?_
    try dsimp only
    have ds1 := ds.to (.of s1)
    obtain ⟨v, hv, dv⟩ := DLs.get a _ ds1 (by rw [List.getElem?_map, hl]; rfl)
    have dv1 := dv
    obtain ⟨q0, q1, q2, ts, ys, rfl, h1, h2, h3, hts, dst⟩ := dl_lp dv
    have lys : ys.length = l.sts.length := by rw [dst.len, List.length_map]
    have htw1 := s1 _ _ htw
    refine ⟨_, rfl, _, rfl, tw, _, _, _, rfl, rfl, SqT.of htw1, at0, r, _, _, _, rfl, rfl, SqL.of (s1 _ _ hr0), atI_nat hv, ?_⟩
    refine normG (σ' := [some (.ref r), some (.int n), some (.ref tw), some (.int U), some (.ref q0), none, none]) rfl ?_
    try dsimp only
    refine ⟨_, rfl, _, rfl, tw, _, _, _, rfl, rfl, SqT.of htw1, at0, _, rfl, r, _, rfl, SqL.of (s1 _ _ hr0), fun D hD => ⟨_, rfl, Pd, D, xs.take a, ls.take a, n, rfl, ?_, ?_, ?_, fun l hl => ok l (List.mem_of_mem_take hl), fun H2 s2 => ?_⟩⟩
    · rw [upd_same, cutK]
    · rw [List.map_take]
      exact (ds1.to (.of (Same.new _ (Same.refl H1) hD))).take a
    · rw [List.length_take]
      omega
    have s12 := (Same.new _ (Same.refl H1) hD).trans s2
    rw [pre_take ok (by omega)]
    refine ⟨_, rfl, q0, _, _, _, rfl, rfl, SqT.of (s12 _ _ h1), at4, ts, rfl, ⟨_, SqL.of (s12 _ _ hts)⟩, fun D2 hD2 => ?_⟩
    refine lc_list (K := K) (xs := ys) (fun b Hb => Hb D2 = some (.lst (((l.sts.take b).map fun m => (((dtn l n m.gds).below (t : Int) : Nat) : Int)).map V.int)) ∧ Same H2 Hb) ⟨upd_same, Same.new _ (Same.refl H2) hD2⟩ (fun b Hb _ z => SqL.of (z.2 _ _ (s12 _ _ hts))) ?_ ?_
    · rintro b v Hb hv ⟨eD, sb⟩
      obtain ⟨m, hm, dm⟩ := (dst.to (.of (s12.trans sb))).map' hv
      have hb : b < l.sts.length := (List.getElem?_eq_some_iff.mp hm).1
      refine ⟨rfl, yes_of ?_⟩
      refine ⟨_, rfl, _, rfl, _, rfl, _, rfl, Pd, _, v, l, m, n, t, by rw [hU]; rfl, dv1.to (.of (s12.trans sb)), dm, okl, okS m (List.mem_of_getElem? hm), by omega, fun H3 s3 => ?_⟩
      have eD3 := s3 _ _ eD
      refine ⟨_, eD3, sz1m _ (by rw [List.length_map, List.length_map, List.length_take]; omega), ?_, fun b' o e => ?_⟩
      · rw [upd_same, List.take_add_one, hm, List.map_append, List.map_append]
        rfl
      · rw [upd_ne (ne_of_none e hD2)]
        exact s3 _ _ (sb _ _ e)
    rintro H3 ⟨eD, sb⟩
    rw [lys, List.take_length] at eD
    refine ⟨D2, _, rfl, SqL.of eD, _, _, rfl, rfl, ?_⟩
    rw [ahead_sum]
    refine normG (σ' := [some (.ref r), some (.int n), some (.ref tw), some (.int U), some (.ref q0), some (.int ((pre (tabsOf ls n) a : Int) + (wb (cols l n) t : Int))), none]) rfl ?_
    try dsimp only
    have s13 := s12.trans sb
    have htw3 := s13 _ _ htw1
    refine ⟨_, rfl, _, rfl, q0, _, _, _, rfl, rfl, SqT.of (s13 _ _ h1), at4, _, rfl, tw, _, _, _, rfl, rfl, SqT.of htw3, at2, _, rfl, ts, ys, rfl, SqL.of (s13 _ _ hts), fun D3 hD3 => ?_⟩
    rw [cutK]
    have s34 := Same.new (.lst (ys.take s')) (Same.refl H3) hD3
    have eD3 : (upd H3 D3 (.lst (ys.take s'))) D3 = some (.lst (ys.take s')) := upd_same
    obtain ⟨H4, eH4⟩ : ∃ X, X = upd H3 D3 (.lst (ys.take s')) := ⟨_, rfl⟩
    rw [← eH4] at s34 eD3 ⊢
    have s14 := s13.trans s34
    refine ⟨D3, rfl, ⟨_, SqL.of eD3⟩, fun D4 hD4 => ?_⟩
    refine lc_list (K := K) (xs := ys.take s') (fun b Hb => ∃ us, Hb D4 = some (.lst us) ∧ us.length = (((l.sts.take s').take b).filter fun m => stDone m (ctr l n t) n).length ∧ Same H4 Hb) ⟨[], upd_same, rfl, Same.new _ (Same.refl H4) hD4⟩ (fun b Hb _ z => SqL.of (z.choose_spec.2.2 _ _ eD3)) ?_ ?_
    · rintro b v Hb hv ⟨us, eU, lu, sb⟩
      have dst2 : DLs Pd Hb (ys.take s') ((l.sts.take s').map stR) := by
        rw [List.map_take]
        exact (dst.to (.of (s14.trans sb))).take s'
      obtain ⟨m, hm, dm⟩ := dst2.map' hv
      have step := filt_snoc (p := fun m => stDone m (ctr l n t) n) hm
      have lim : us.length ≤ 3 := by
        rw [lu]
        refine Nat.le_trans (List.length_filter_le _ _) ?_
        rw [List.length_take, List.length_take]
        omega
      refine ⟨rfl, _, rfl, _, rfl, tw, _, _, _, rfl, rfl, SqT.of ((s14.trans sb) _ _ htw1), at1, _, rfl, Pd, v, m, _, n, rfl, dm, okS m (List.mem_of_mem_take (List.mem_of_getElem? hm)), fun H5 s5 => ⟨_, rfl, ite2 (fun z => ?_) (fun z => ?_)⟩⟩
      · rw [if_pos z] at step
        refine ⟨_, rfl, us, s5 _ _ eU, sz1m _ (by omega), us ++ [v], upd_same, ?_, fun c o e => ?_⟩
        · rw [step, List.length_append, List.length_append, lu]
          rfl
        · rw [upd_ne (ne_of_none e hD4)]
          exact s5 _ _ (sb c o e)
      · rw [if_neg z, List.append_nil] at step
        rw [step]
        exact ⟨us, s5 _ _ eU, lu, sb.trans s5⟩
    rintro H5 ⟨us, eU, lu, sb⟩
    have e1 := dn_place hdn
    rw [done_cnt okS (by omega)] at e1
    rw [show (ys.take s').length = (l.sts.take s').length by rw [List.length_take, List.length_take, lys], List.take_length, ← e1] at lu
    refine ⟨D4, us, rfl, .inl (SqL.of eU), _, _, rfl, rfl, ?_⟩
    try dsimp only
    rw [show (pre (tabsOf ls n) a : Int) + (wb (cols l n) t : Int) + (us.length : Int) = (k : Int) by omega]
    exact q _ (s1.trans (s14.trans sb))
end
end K35
set_option maxHeartbeats 4000000
namespace PySem
theorem F.dflt_min (a d : Value) : checkBuiltinCall "min" ⟨[a], [("default", d)]⟩ = pure () := by kernel_rfl
theorem F.bind_min (d : Value) : Builtin.Builtins.bindParams "min" ["key", "default"] 0 ⟨[], [("default", d)]⟩ = pure [none, some d] := by kernel_rfl
theorem again_min : (toString "min" ++ toString ".loop" : String) = "min.loop" := by decide
section
variable {prog : Program} {w : World} {A : Around} {R : Result → Shared → Prop} {I : Addr} {fp wr : List Addr} {n : Nat} {P : Nat → Value → Prop} {St : Nat → Heap → Prop} {dv : Value}
theorem minD_go (Wk : Walks prog w A.in1 I fp wr n P St) (cp : Nat → Nat → Bool) (cmp : CmpOf prog w A.in1 .Lt P cp) {B : Addr} (nB : B ∉ fp) : ∀ (left at_ : Nat) (s : Shared) (v0 : Value) (cap : Nat), n - (at_ + 1) = left → at_ + 1 ≤ n → St (at_ + 1) s.heap → P (argBest cp at_) v0 →
    s.heap.get? B = some ⟨.type "list", none, .seq #[v0, v0] cap, #[]⟩ → (∀ v h' tk, P (argBest cp (n - 1)) v → (∀ b o, b ∉ wr → b ≠ B → s.heap.get? b = some o → h'.get? b = some o) → R (.ok (.ret v)) { s with heap := h', toks := tk }) →
    codeAny (model prog w) A (.builtin "min.loop" ⟨[.ref I, .none, .ref B], [("default", dv)]⟩) R s := by
  have wB : B ∉ wr := fun z => nB (Wk.sub _ z)
  intro left
  induction left with
  | zero =>
    intro at_ s v0 cap e1 e2 st p0 hB out
    have full : at_ + 1 = n := by omega
    refine codeAny_builtin F.entry_min_loop ?_; rw [Around.under_plainId F.plain_min_loop _]; show wpAny _ A.in1 (seqItems? (.ref B) >>= _) _ _ s
    refine wpAny_bind (wpAny_seqItems hB rfl ?_); show wpAny _ A.in1 (tryCatch (pyNext (.ref I)) _ >>= _) _ _ s
    refine wpAny_bind (wpAny_tryCatch (Wk.done s _ _ (full ▸ st) fun h' tk kp => ?_)); show wpAny _ A.in1 (updateSeq B (fun _ => #[]) >>= _) _ _ _
    refine wpAny_bind (wpAny_updateSeq (kp B _ wB hB) rfl (wpAny_bind (wpAny_letGo (wpAny_pure (out v0 _ tk (by rw [← full]; exact p0) fun b o z1 z2 e => ?_)))))
    exact (Heap.get?_update_other _ _ (Ne.symm z2)).trans (kp b o z1 e)
  | succ left ih =>
    intro at_ s v0 cap e1 e2 st p0 hB out
    refine codeAny_builtin F.entry_min_loop ?_; rw [Around.under_plainId F.plain_min_loop _]; show wpAny _ A.in1 (seqItems? (.ref B) >>= _) _ _ s
    refine wpAny_bind (wpAny_seqItems hB rfl ?_); show wpAny _ A.in1 (tryCatch (pyNext (.ref I)) _ >>= _) _ _ s
    refine wpAny_bind (wpAny_tryCatch (Wk.item (at_ + 1) s _ _ (by omega) st fun v h' tk pv st2 kp => ?_)); have hB2 := kp B _ wB hB
    show wpAny _ A.in1 (tryCatch (holding [v, v] (richCompare .Lt v v0 >>= _)) _ >>= _) _ _ _
    refine wpAny_bind (wpAny_tryCatch (wpAny_holding (wpAny_bind (cmp (at_ + 1) (argBest cp at_) v v0 _ _ _ pv p0 ?_)))); refine wpAny_bind (wpAny_holding (wpAny_truthy_bool ?_)); refine wpAny_bind (wpAny_letGo (wpAny_pure ?_))
    cases q : cp (at_ + 1) (argBest cp at_) with
    | true =>
      simp only [if_true]; refine wpAny_bind (wpAny_updateSeq hB2 rfl (wpAny_bind (wpAny_letGo ?_))); rw [again_min]
      refine wpAny_pure ⟨plainId_quiet F.plain_min_loop _, ih (at_ + 1) _ v _ (by omega) (by omega) (Wk.frame _ _ _ st2 fun b z o e => ?_) (by simp only [argBest, q, if_true]; exact pv) (Heap.get?_update_self _ hB2 rfl) fun v2 h2 tk2 p2 kp2 => ?_⟩
      · exact (Heap.get?_update_other _ _ fun z2 : B = b => nB (z2 ▸ z)).trans e
      · exact out v2 h2 tk2 p2 fun b o z1 z2 e => kp2 b o z1 z2 ((Heap.get?_update_other _ _ (Ne.symm z2)).trans (kp b o z1 e))
    | false =>
      simp only [Bool.false_eq_true, if_false]; refine wpAny_bind (wpAny_letGo ?_); rw [again_min]
      refine wpAny_pure ⟨plainId_quiet F.plain_min_loop _, ih (at_ + 1) _ v0 cap (by omega) (by omega) st2 (by simp only [argBest, q, Bool.false_eq_true, if_false]; exact p0) hB2 fun v2 h2 tk2 p2 kp2 => ?_⟩
      exact out v2 h2 tk2 p2 fun b o z1 z2 e => kp2 b o z1 z2 (kp b o z1 e)
theorem minD_first (Wk : Walks prog w A.in1 I fp wr n P St) (cp : Nat → Nat → Bool) (cmp : CmpOf prog w A.in1 .Lt P cp) {B : Addr} (nB : B ∉ fp) {s : Shared} {cap : Nat} (st : St 0 s.heap) (hB : s.heap.get? B = some ⟨.type "list", none, .seq #[] cap, #[]⟩)
    (out : 0 < n → ∀ v h' tk, P (argBest cp (n - 1)) v → (∀ b o, b ∉ wr → b ≠ B → s.heap.get? b = some o → h'.get? b = some o) → R (.ok (.ret v)) { s with heap := h', toks := tk })
    (no : n = 0 → ∀ h' tk, (∀ b o, b ∉ wr → b ≠ B → s.heap.get? b = some o → h'.get? b = some o) → R (.ok (.ret dv)) { s with heap := h', toks := tk }) :
    codeAny (model prog w) A (.builtin "min.loop" ⟨[.ref I, .none, .ref B], [("default", dv)]⟩) R s := by
  have wB : B ∉ wr := fun z => nB (Wk.sub _ z)
  refine codeAny_builtin F.entry_min_loop ?_; rw [Around.under_plainId F.plain_min_loop _]; show wpAny _ A.in1 (seqItems? (.ref B) >>= _) _ _ s
  refine wpAny_bind (wpAny_seqItems hB rfl ?_); show wpAny _ A.in1 (tryCatch (pyNext (.ref I)) _ >>= _) _ _ s
  by_cases z0 : n = 0
  · refine wpAny_bind (wpAny_tryCatch (Wk.done s _ _ (z0 ▸ st) fun h' tk kp => ?_))
    exact wpAny_bind (wpAny_rule (wpAny_pure (no z0 h' tk fun b o z1 _ e => kp b o z1 e)))
  · refine wpAny_bind (wpAny_tryCatch (Wk.item 0 s _ _ (by omega) st fun v h' tk pv st2 kp => ?_)); have hB2 := kp B _ wB hB
    show wpAny _ A.in1 (updateSeq B (fun _ => #[v, v]) >>= _) _ _ _; refine wpAny_bind (wpAny_updateSeq hB2 rfl ?_); rw [again_min]
    refine wpAny_pure ⟨plainId_quiet F.plain_min_loop _, minD_go Wk cp cmp nB _ 0 _ v _ rfl (by omega) (Wk.frame _ _ _ st2 fun b z o e => ?_) pv (Heap.get?_update_self _ hB2 rfl) fun v2 h2 tk2 p2 kp2 => ?_⟩
    · exact (Heap.get?_update_other _ _ fun z2 : B = b => nB (z2 ▸ z)).trans e
    · exact out (by omega) v2 h2 tk2 p2 fun b o z1 z2 e => kp2 b o z1 z2 ((Heap.get?_update_other _ _ (Ne.symm z2)).trans (kp b o z1 e))
end
section
variable {prog : Program} {w : World} {A : Around} {E : Value → Shared → Prop} {s : Shared} {l : Addr} {xs : Array (Int × Tok)} {dv : Value}
theorem minD_ints {Q : Value → Shared → Prop} (hh : A.handled = none) (hl : s.heap.IsList l (intItems xs)) (out : 0 < xs.size → ∀ v h' tk, (intItems xs)[argBest (fun i j => decide (numAt xs i < numAt xs j)) (xs.size - 1)]? = some v → (∀ b o, s.heap.get? b = some o → h'.get? b = some o) → Q v { s with heap := h', toks := tk })
    (no : xs.size = 0 → ∀ h' tk, (∀ b o, s.heap.get? b = some o → h'.get? b = some o) → Q dv { s with heap := h', toks := tk }) : wpAny (model prog w) A (call (.builtin "min") [.ref l] [("default", dv)]) Q E s := by
  refine wpAny_call (codeAny_call_builtin F.plain_min F.entry_min ?_)
  rw [F.dflt_min (.ref l) dv]; refine wpAny_pure ?_
  show wpAny _ A.in1 (Builtin.Builtins.bindParams "min" ["key", "default"] 0 ⟨[], [("default", dv)]⟩ >>= _) _ _ s
  refine wpAny_bind (wpAny_of_eq (F.bind_min dv) (wpAny_bind (wpAny_pure (wpAny_bind (iter_intList hl fun s2 e2 st f2 nl => ?_)))))
  subst e2; refine wpAny_bind (wpAny_newObj_type ?_); rw [again_min]
  have sz : (intItems xs).size = xs.size := by simp [intItems]
  have nB : (s.heap.push ⟨.type "list_iterator", none, .fields #[.ref l, .int 0 0], #[]⟩).objs.size ∉ [s.heap.objs.size, l] := fun z => Nat.lt_irrefl _ (f2 _ z)
  have Wk := Walks.list (prog := prog) (w := w) (A := A.in1) hh s.heap.objs.size l nl (intItems xs)
  refine wpAny_pure ⟨plainId_quiet F.plain_min_loop _, minD_first Wk _ (CmpOf.ints_lt (numAt xs) fun _ _ z => intItems_at z) nB (Wk.frame _ _ _ st fun b _ o e => Heap.get?_push_of_some _ e) (Heap.get?_push_size _ rfl) (fun n0 v h' tk pv kp => ?_) fun n0 h' tk kp => ?_⟩
  · refine out (by omega) v h' tk (by rw [sz] at pv; exact pv) fun b o e => ?_
    exact kp b o (fun z => Nat.lt_irrefl _ ((List.mem_singleton.mp z) ▸ Heap.lt_size e)) (fun z => by have := Heap.lt_size e; rw [z, Heap.size_push] at this; exact Nat.lt_irrefl _ (Nat.lt_of_succ_lt this)) (Heap.get?_push_of_some _ (Heap.get?_push_of_some _ e))
  · refine no (by omega) h' tk fun b o e => ?_
    exact kp b o (fun z => Nat.lt_irrefl _ ((List.mem_singleton.mp z) ▸ Heap.lt_size e)) (fun z => by have := Heap.lt_size e; rw [z, Heap.size_push] at this; exact Nat.lt_irrefl _ (Nat.lt_of_succ_lt this)) (Heap.get?_push_of_some _ (Heap.get?_push_of_some _ e))
end
theorem F.dflt_max (a d : Value) : checkBuiltinCall "max" ⟨[a], [("default", d)]⟩ = pure () := by kernel_rfl
theorem F.bind_max (d : Value) : Builtin.Builtins.bindParams "max" ["key", "default"] 0 ⟨[], [("default", d)]⟩ = pure [none, some d] := by kernel_rfl
theorem again_max : (toString "max" ++ toString ".loop" : String) = "max.loop" := by decide
section
variable {prog : Program} {w : World} {A : Around} {R : Result → Shared → Prop} {I : Addr} {fp wr : List Addr} {n : Nat} {P : Nat → Value → Prop} {St : Nat → Heap → Prop} {dv : Value}
theorem maxD_go (Wk : Walks prog w A.in1 I fp wr n P St) (cp : Nat → Nat → Bool) (cmp : CmpOf prog w A.in1 .Gt P cp) {B : Addr} (nB : B ∉ fp) : ∀ (left at_ : Nat) (s : Shared) (v0 : Value) (cap : Nat), n - (at_ + 1) = left → at_ + 1 ≤ n → St (at_ + 1) s.heap → P (argBest cp at_) v0 →
    s.heap.get? B = some ⟨.type "list", none, .seq #[v0, v0] cap, #[]⟩ → (∀ v h' tk, P (argBest cp (n - 1)) v → (∀ b o, b ∉ wr → b ≠ B → s.heap.get? b = some o → h'.get? b = some o) → R (.ok (.ret v)) { s with heap := h', toks := tk }) →
    codeAny (model prog w) A (.builtin "max.loop" ⟨[.ref I, .none, .ref B], [("default", dv)]⟩) R s := by
  have wB : B ∉ wr := fun z => nB (Wk.sub _ z)
  intro left
  induction left with
  | zero =>
    intro at_ s v0 cap e1 e2 st p0 hB out
    have full : at_ + 1 = n := by omega
    refine codeAny_builtin F.entry_max_loop ?_; rw [Around.under_plainId F.plain_max_loop _]; show wpAny _ A.in1 (seqItems? (.ref B) >>= _) _ _ s
    refine wpAny_bind (wpAny_seqItems hB rfl ?_); show wpAny _ A.in1 (tryCatch (pyNext (.ref I)) _ >>= _) _ _ s
    refine wpAny_bind (wpAny_tryCatch (Wk.done s _ _ (full ▸ st) fun h' tk kp => ?_)); show wpAny _ A.in1 (updateSeq B (fun _ => #[]) >>= _) _ _ _
    refine wpAny_bind (wpAny_updateSeq (kp B _ wB hB) rfl (wpAny_bind (wpAny_letGo (wpAny_pure (out v0 _ tk (by rw [← full]; exact p0) fun b o z1 z2 e => ?_)))))
    exact (Heap.get?_update_other _ _ (Ne.symm z2)).trans (kp b o z1 e)
  | succ left ih =>
    intro at_ s v0 cap e1 e2 st p0 hB out
    refine codeAny_builtin F.entry_max_loop ?_; rw [Around.under_plainId F.plain_max_loop _]; show wpAny _ A.in1 (seqItems? (.ref B) >>= _) _ _ s
    refine wpAny_bind (wpAny_seqItems hB rfl ?_); show wpAny _ A.in1 (tryCatch (pyNext (.ref I)) _ >>= _) _ _ s
    refine wpAny_bind (wpAny_tryCatch (Wk.item (at_ + 1) s _ _ (by omega) st fun v h' tk pv st2 kp => ?_)); have hB2 := kp B _ wB hB
    show wpAny _ A.in1 (tryCatch (holding [v, v] (richCompare .Gt v v0 >>= _)) _ >>= _) _ _ _
    refine wpAny_bind (wpAny_tryCatch (wpAny_holding (wpAny_bind (cmp (at_ + 1) (argBest cp at_) v v0 _ _ _ pv p0 ?_)))); refine wpAny_bind (wpAny_holding (wpAny_truthy_bool ?_)); refine wpAny_bind (wpAny_letGo (wpAny_pure ?_))
    cases q : cp (at_ + 1) (argBest cp at_) with
    | true =>
      simp only [if_true]; refine wpAny_bind (wpAny_updateSeq hB2 rfl (wpAny_bind (wpAny_letGo ?_))); rw [again_max]
      refine wpAny_pure ⟨plainId_quiet F.plain_max_loop _, ih (at_ + 1) _ v _ (by omega) (by omega) (Wk.frame _ _ _ st2 fun b z o e => ?_) (by simp only [argBest, q, if_true]; exact pv) (Heap.get?_update_self _ hB2 rfl) fun v2 h2 tk2 p2 kp2 => ?_⟩
      · exact (Heap.get?_update_other _ _ fun z2 : B = b => nB (z2 ▸ z)).trans e
      · exact out v2 h2 tk2 p2 fun b o z1 z2 e => kp2 b o z1 z2 ((Heap.get?_update_other _ _ (Ne.symm z2)).trans (kp b o z1 e))
    | false =>
      simp only [Bool.false_eq_true, if_false]; refine wpAny_bind (wpAny_letGo ?_); rw [again_max]
      refine wpAny_pure ⟨plainId_quiet F.plain_max_loop _, ih (at_ + 1) _ v0 cap (by omega) (by omega) st2 (by simp only [argBest, q, Bool.false_eq_true, if_false]; exact p0) hB2 fun v2 h2 tk2 p2 kp2 => ?_⟩
      exact out v2 h2 tk2 p2 fun b o z1 z2 e => kp2 b o z1 z2 (kp b o z1 e)
theorem maxD_first (Wk : Walks prog w A.in1 I fp wr n P St) (cp : Nat → Nat → Bool) (cmp : CmpOf prog w A.in1 .Gt P cp) {B : Addr} (nB : B ∉ fp) {s : Shared} {cap : Nat} (st : St 0 s.heap) (hB : s.heap.get? B = some ⟨.type "list", none, .seq #[] cap, #[]⟩)
    (out : 0 < n → ∀ v h' tk, P (argBest cp (n - 1)) v → (∀ b o, b ∉ wr → b ≠ B → s.heap.get? b = some o → h'.get? b = some o) → R (.ok (.ret v)) { s with heap := h', toks := tk })
    (no : n = 0 → ∀ h' tk, (∀ b o, b ∉ wr → b ≠ B → s.heap.get? b = some o → h'.get? b = some o) → R (.ok (.ret dv)) { s with heap := h', toks := tk }) :
    codeAny (model prog w) A (.builtin "max.loop" ⟨[.ref I, .none, .ref B], [("default", dv)]⟩) R s := by
  have wB : B ∉ wr := fun z => nB (Wk.sub _ z)
  refine codeAny_builtin F.entry_max_loop ?_; rw [Around.under_plainId F.plain_max_loop _]; show wpAny _ A.in1 (seqItems? (.ref B) >>= _) _ _ s
  refine wpAny_bind (wpAny_seqItems hB rfl ?_); show wpAny _ A.in1 (tryCatch (pyNext (.ref I)) _ >>= _) _ _ s
  by_cases z0 : n = 0
  · refine wpAny_bind (wpAny_tryCatch (Wk.done s _ _ (z0 ▸ st) fun h' tk kp => ?_))
    exact wpAny_bind (wpAny_rule (wpAny_pure (no z0 h' tk fun b o z1 _ e => kp b o z1 e)))
  · refine wpAny_bind (wpAny_tryCatch (Wk.item 0 s _ _ (by omega) st fun v h' tk pv st2 kp => ?_)); have hB2 := kp B _ wB hB
    show wpAny _ A.in1 (updateSeq B (fun _ => #[v, v]) >>= _) _ _ _; refine wpAny_bind (wpAny_updateSeq hB2 rfl ?_); rw [again_max]
    refine wpAny_pure ⟨plainId_quiet F.plain_max_loop _, maxD_go Wk cp cmp nB _ 0 _ v _ rfl (by omega) (Wk.frame _ _ _ st2 fun b z o e => ?_) pv (Heap.get?_update_self _ hB2 rfl) fun v2 h2 tk2 p2 kp2 => ?_⟩
    · exact (Heap.get?_update_other _ _ fun z2 : B = b => nB (z2 ▸ z)).trans e
    · exact out (by omega) v2 h2 tk2 p2 fun b o z1 z2 e => kp2 b o z1 z2 ((Heap.get?_update_other _ _ (Ne.symm z2)).trans (kp b o z1 e))
end
section
variable {prog : Program} {w : World} {A : Around} {E : Value → Shared → Prop} {s : Shared} {l : Addr} {xs : Array (Int × Tok)} {dv : Value}
theorem maxD_ints {Q : Value → Shared → Prop} (hh : A.handled = none) (hl : s.heap.IsList l (intItems xs)) (out : 0 < xs.size → ∀ v h' tk, (intItems xs)[argBest (fun i j => decide (numAt xs i > numAt xs j)) (xs.size - 1)]? = some v → (∀ b o, s.heap.get? b = some o → h'.get? b = some o) → Q v { s with heap := h', toks := tk })
    (no : xs.size = 0 → ∀ h' tk, (∀ b o, s.heap.get? b = some o → h'.get? b = some o) → Q dv { s with heap := h', toks := tk }) : wpAny (model prog w) A (call (.builtin "max") [.ref l] [("default", dv)]) Q E s := by
  refine wpAny_call (codeAny_call_builtin F.plain_max F.entry_max ?_)
  rw [F.dflt_max (.ref l) dv]; refine wpAny_pure ?_
  show wpAny _ A.in1 (Builtin.Builtins.bindParams "max" ["key", "default"] 0 ⟨[], [("default", dv)]⟩ >>= _) _ _ s
  refine wpAny_bind (wpAny_of_eq (F.bind_max dv) (wpAny_bind (wpAny_pure (wpAny_bind (iter_intList hl fun s2 e2 st f2 nl => ?_)))))
  subst e2; refine wpAny_bind (wpAny_newObj_type ?_); rw [again_max]
  have sz : (intItems xs).size = xs.size := by simp [intItems]
  have nB : (s.heap.push ⟨.type "list_iterator", none, .fields #[.ref l, .int 0 0], #[]⟩).objs.size ∉ [s.heap.objs.size, l] := fun z => Nat.lt_irrefl _ (f2 _ z)
  have Wk := Walks.list (prog := prog) (w := w) (A := A.in1) hh s.heap.objs.size l nl (intItems xs)
  refine wpAny_pure ⟨plainId_quiet F.plain_max_loop _, maxD_first Wk _ (CmpOf.ints_gt (numAt xs) fun _ _ z => intItems_at z) nB (Wk.frame _ _ _ st fun b _ o e => Heap.get?_push_of_some _ e) (Heap.get?_push_size _ rfl) (fun n0 v h' tk pv kp => ?_) fun n0 h' tk kp => ?_⟩
  · refine out (by omega) v h' tk (by rw [sz] at pv; exact pv) fun b o e => ?_
    exact kp b o (fun z => Nat.lt_irrefl _ ((List.mem_singleton.mp z) ▸ Heap.lt_size e)) (fun z => by have := Heap.lt_size e; rw [z, Heap.size_push] at this; exact Nat.lt_irrefl _ (Nat.lt_of_succ_lt this)) (Heap.get?_push_of_some _ (Heap.get?_push_of_some _ e))
  · refine no (by omega) h' tk fun b o e => ?_
    exact kp b o (fun z => Nat.lt_irrefl _ ((List.mem_singleton.mp z) ▸ Heap.lt_size e)) (fun z => by have := Heap.lt_size e; rw [z, Heap.size_push] at this; exact Nat.lt_irrefl _ (Nat.lt_of_succ_lt this)) (Heap.get?_push_of_some _ (Heap.get?_push_of_some _ e))
end
end PySem
namespace Z
open PySem PySem.Spec PyProof.Rows L2
def rMinD (K : PySem.W.Frag) : List V → List V → Hp → VK → Prop := fun vs zs H Q => ∃ (a : Addr) (ns : List Int) (d : V), vs = [.ref a] ∧ zs = [d] ∧ SqL K H a (ns.map V.int) ∧ (ns = [] → Q d H) ∧ ∀ m, m ∈ ns → (∀ y, y ∈ ns → m ≤ y) → Q (.int m) H
def rMaxD (K : PySem.W.Frag) : List V → List V → Hp → VK → Prop := fun vs zs H Q => ∃ (a : Addr) (ns : List Int) (d : V), vs = [.ref a] ∧ zs = [d] ∧ SqL K H a (ns.map V.int) ∧ (ns = [] → Q d H) ∧ ∀ m, m ∈ ns → (∀ y, y ∈ ns → y ≤ m) → Q (.int m) H
section
variable {X : Cx} {K : PySem.W.Frag}
theorem cr_minD (hK : X.K = K) (hc : X.calm = true) : CallRK X (.builtin "min") ["default"] (rMinD K) := by
  subst hK
  intro pins s σ H vs zs us ws Q I r rz h
  obtain ⟨a, ns, d, rfl, rfl, hs, q0, q⟩ := h
  obtain rfl := Vals.ref1 r
  obtain ⟨w1, rfl, e1⟩ := vals1 rz
  obtain ⟨its, rv, hl, _⟩ := I.list hs
  have hi := rv.ints
  obtain ⟨xs, ex⟩ := hi.allInts.items
  have hn : numsOf (intItems xs).toList = ns := by rw [← ex, hi.numsOf]
  rw [nums_intItems] at hn
  have hl2 := hl.isList
  rw [ex] at hl2
  have lz : ns.length = xs.size := by rw [← hn]; simp
  refine minD_ints (I.ok.hd hc) hl2 (fun n0 v h' tk hv kp => ?_) fun n0 h' tk kp => ⟨d, H, I.kept kp, e1, q0 (List.eq_nil_of_length_eq_zero (by omega))⟩
  obtain ⟨t, rfl⟩ := intItems_at hv
  obtain ⟨b1, b2⟩ := argBest_lt (numAt xs) (xs.size - 1)
  refine ⟨.int _, H, I.kept kp, ⟨_, rfl⟩, q _ ?_ fun y hy => ?_⟩
  · rw [← hn, numAt_eq]; exact PySem.getD_mem (by rw [List.length_map, Array.length_toList]; omega)
  · rw [← hn] at hy; obtain ⟨j, hj, rfl⟩ := mem_getD hy
    rw [List.length_map, Array.length_toList] at hj; rw [← numAt_eq]; exact b2 j (by omega)
theorem cr_maxD (hK : X.K = K) (hc : X.calm = true) : CallRK X (.builtin "max") ["default"] (rMaxD K) := by
  subst hK
  intro pins s σ H vs zs us ws Q I r rz h
  obtain ⟨a, ns, d, rfl, rfl, hs, q0, q⟩ := h
  obtain rfl := Vals.ref1 r
  obtain ⟨w1, rfl, e1⟩ := vals1 rz
  obtain ⟨its, rv, hl, _⟩ := I.list hs
  have hi := rv.ints
  obtain ⟨xs, ex⟩ := hi.allInts.items
  have hn : numsOf (intItems xs).toList = ns := by rw [← ex, hi.numsOf]
  rw [nums_intItems] at hn
  have hl2 := hl.isList
  rw [ex] at hl2
  have lz : ns.length = xs.size := by rw [← hn]; simp
  refine maxD_ints (I.ok.hd hc) hl2 (fun n0 v h' tk hv kp => ?_) fun n0 h' tk kp => ⟨d, H, I.kept kp, e1, q0 (List.eq_nil_of_length_eq_zero (by omega))⟩
  obtain ⟨t, rfl⟩ := intItems_at hv
  obtain ⟨b1, b2⟩ := argBest_gt (numAt xs) (xs.size - 1)
  refine ⟨.int _, H, I.kept kp, ⟨_, rfl⟩, q _ ?_ fun y hy => ?_⟩
  · rw [← hn, numAt_eq]; exact PySem.getD_mem (by rw [List.length_map, Array.length_toList]; omega)
  · rw [← hn] at hy; obtain ⟨j, hj, rfl⟩ := mem_getD hy
    rw [List.length_map, Array.length_toList] at hj; rw [← numAt_eq]; exact b2 j (by omega)
end
end Z
set_option maxHeartbeats 4000000
namespace K35
open PySem PySem.Spec PyProof.Rows L2 Z
def spNextT : Sp := fun vs H Q _ => ∃ (t : Addr) (T : Tn) (i : Int), vs = [.ref t, .int i] ∧ TnAt H t T ∧ RsOk T.rs ∧ T.rs.length ≤ 12 ∧ (∀ H', Same H H' → (∀ v, T.has v = true → i ≤ v → False) → Q .non H') ∧
  ∀ (m : Int) H', Same H H' → T.has m = true → i ≤ m → (∀ v, T.has v = true → i ≤ v → m ≤ v) → Q (.int m) H'
def spLastT : Sp := fun vs H Q _ => ∃ (t : Addr) (T : Tn) (i : Int), vs = [.ref t, .int i] ∧ TnAt H t T ∧ RsOk T.rs ∧ T.rs.length ≤ 12 ∧ (∀ H', Same H H' → (∀ v, T.has v = true → v ≤ i → False) → Q .non H') ∧
  ∀ (m : Int) H', Same H H' → T.has m = true → m ≤ i → (∀ v, T.has v = true → v ≤ i → v ≤ m) → Q (.int m) H'
section
variable {P : Program} {w : World} {K : PySem.W.Frag} {mg : Str → Option Value} {base : Heap}
theorem sc_next_of_turns : FnScope ["turns", "turn", "low", "high", "rests", "start", "found", "rest"] ["turns", "turn"] (defScope s_next_of_turns) := ⟨rfl, rfl, rfl, by decide +kernel, rfl, by decide +kernel, by decide +kernel⟩
theorem ok_nextT {f : Addr} {fd : FuncData} (F : FnP K "next_of_turns" s_next_of_turns f fd) (T : LwTx K mg) (U : Nb mg) (hCYCLE : ∃ t, mg "CYCLE" = some (.int 12 t)) : FnOk P w K mg base CX0 1 f fd ["turns", "turn"] spNextT := by
  obtain ⟨tCYCLE, hCYCLE⟩ := hCYCLE
  refine F.ok sc_next_of_turns (fun vs H Q E h => ?_) (fun cdv A outer s H vs Q E hr h => ?_)
  · obtain ⟨t, W, i, rfl, _⟩ := h
    rfl
  · obtain ⟨t, W, i, rfl, ⟨r, ht, hrs⟩, rok, l12, kn, ks⟩ := h
    refine ⟨_, PSs.nox (pss_cons (ps_asg (pv 0) (pg_tup (by rfl) (pgs_cons (pg_name (i := 2) sc_next_of_turns.nd rfl (.inl rfl)) (pgs_cons (pg_name (i := 3) sc_next_of_turns.nd rfl (.inl rfl)) (pgs_cons (pg_name (i := 4) sc_next_of_turns.nd rfl (.inl rfl)) pgs_nil)))))
      (pss_cons (ps_set (i := 5) sc_next_of_turns.nd rfl (Or.inr rfl) (pe_callB (call_max2 rfl) (by rfl) T.max (by decide +kernel) (pa_cons (pv 1) (pa_cons (pv 2) pa_nil))))
      (pss_cons (ps_set (i := 6) sc_next_of_turns.nd rfl (Or.inl rfl) (pe_callBK (cr_minD (K := K) rfl rfl) (by rfl) U.min (by decide +kernel) (pa_cons (pe_lc (own := [("rest", 7)]) (g := gName 7) (tt := tYes) rfl sc_next_of_turns.nd (pi_tup (pv 4)) (blkOk_by (N := ["turns", "turn", "low", "high", "rests", "start", "found", "rest"]) (sc := defScope s_next_of_turns) (by decide +kernel)) (fun _ _ _ _ _ => (pg_name (i := 7) sc_next_of_turns.nd rfl (.inl rfl))) (fun _ _ _ _ _ => pts_nil) (fun _ _ _ _ _ => (pe_op op_add (pv 5) (pe_op op_modN (pe_op op_sub (pv 7) (pv 5)) (pe_glob (v := .int 12) rfl hCYCLE ⟨tCYCLE, rfl⟩))))) pa_nil) (pk_cons pe_non pk_nil)))
      (pss_one (ps_ret (pe_ifExp (PW.pt (pw_and (pt_cmpR op_notN (pv 6) pe_non (nomark _)) (pw_and1 (pt_cmpR op_le (pv 6) (pv 3) (nomark _))))) (pv 6) pe_non)))))), ?_⟩
    refine ⟨_, rfl, t, _, rfl, SqT.of ht, rfl, _, _, rfl, _, _, rfl, _, _, rfl, rfl, ?_⟩
    refine norm (N := fun σ _ => _) (σ' := [some (.ref t), some (.int i), some (.int W.lo), some (.int W.hi), some (.ref r), none, none, none]) rfl ?_
    try dsimp only
    refine ⟨_, rfl, _, rfl, _, _, rfl, ?_⟩
    rw [mxI]
    refine normG (σ' := [some (.ref t), some (.int i), some (.int W.lo), some (.int W.hi), some (.ref r), some (.int (max i W.lo)), none, none]) rfl ?_
    try dsimp only
    refine ⟨_, rfl, r, rfl, ⟨_, SqT.of hrs⟩, fun D hD => ?_⟩
    refine lc_tup (K := K) (xs := W.rs.map V.int) (fun b Hb => Hb D = some (.lst (((W.rs.take b).map fun r => (max i W.lo) + (r - (max i W.lo)) % 12).map V.int)) ∧ Same H Hb) ⟨upd_same, Same.new _ (Same.refl H) hD⟩ (fun b Hb _ z => SqT.of (z.2 _ _ hrs)) ?_ ?_
    · rintro b v Hb hv ⟨eD, sb⟩
      rw [List.getElem?_map] at hv
      obtain ⟨y, hy, rfl⟩ := Option.map_eq_some_iff.mp hv
      have hb : b < W.rs.length := (List.getElem?_eq_some_iff.mp hy).1
      refine ⟨rfl, yes_of ?_⟩
      refine ⟨_, rfl, _, rfl, _, rfl, _, _, rfl, rfl, _, _, rfl, rfl, (show (12 : Int) ≠ 0 by decide), _, _, rfl, rfl, ?_⟩
      try dsimp only
      rw [fmod12]
      refine ⟨_, eD, sz1m _ (by rw [List.length_map, List.length_map, List.length_take]; omega), ?_, fun b' o e => ?_⟩
      · rw [upd_same, List.take_add_one, hy, List.map_append, List.map_append]
        rfl
      · rw [upd_ne (ne_of_none e hD)]
        exact sb _ _ e
    rintro H3 ⟨eD, sb⟩
    rw [List.length_map, List.take_length] at eD
    refine ⟨D, _, .non, rfl, rfl, SqL.of eD, fun e0 => ?_, fun m hm least => ?_⟩
    · refine normG (σ' := [some (.ref t), some (.int i), some (.int W.lo), some (.int W.hi), some (.ref r), some (.int (max i W.lo)), some .non, none]) rfl ?_
      try dsimp only
      refine ⟨_, rfl, rfl, _, rfl, if_no rfl ?_⟩
      exact kn H3 sb fun v hv _ => by rw [next_none (t := 0) (List.map_eq_nil_iff.mp e0)] at hv; cases hv
    · refine normG (σ' := [some (.ref t), some (.int i), some (.int W.lo), some (.int W.hi), some (.ref r), some (.int (max i W.lo)), some (.int m), none]) rfl ?_
      try dsimp only
      refine ⟨_, rfl, rfl, _, rfl, if_yes rfl ⟨_, rfl, _, rfl, _, _, rfl, rfl, _, rfl, ite2 (fun z => ?_) (fun z => ?_)⟩⟩
      · have z := of_decide_eq_true z
        have hh := next_has rok hm z
        exact ⟨_, rfl, ks m H3 sb hh.1 hh.2 fun v hv iv => next_least least hv iv⟩
      · refine kn H3 sb fun v hv iv => z (decide_eq_true ?_)
        have := next_least least hv iv
        have := Tn.has_iff.mp hv
        omega
theorem sc_last_of_turns : FnScope ["turns", "turn", "low", "high", "rests", "start", "found", "rest"] ["turns", "turn"] (defScope s_last_of_turns) := ⟨rfl, rfl, rfl, by decide +kernel, rfl, by decide +kernel, by decide +kernel⟩
theorem ok_lastT {f : Addr} {fd : FuncData} (F : FnP K "last_of_turns" s_last_of_turns f fd) (T : LwTx K mg) (U : Nb mg) (hCYCLE : ∃ t, mg "CYCLE" = some (.int 12 t)) : FnOk P w K mg base CX0 1 f fd ["turns", "turn"] spLastT := by
  obtain ⟨tCYCLE, hCYCLE⟩ := hCYCLE
  refine F.ok sc_last_of_turns (fun vs H Q E h => ?_) (fun cdv A outer s H vs Q E hr h => ?_)
  · obtain ⟨t, W, i, rfl, _⟩ := h
    rfl
  · obtain ⟨t, W, i, rfl, ⟨r, ht, hrs⟩, rok, l12, kn, ks⟩ := h
    refine ⟨_, PSs.nox (pss_cons (ps_asg (pv 0) (pg_tup (by rfl) (pgs_cons (pg_name (i := 2) sc_last_of_turns.nd rfl (.inl rfl)) (pgs_cons (pg_name (i := 3) sc_last_of_turns.nd rfl (.inl rfl)) (pgs_cons (pg_name (i := 4) sc_last_of_turns.nd rfl (.inl rfl)) pgs_nil)))))
      (pss_cons (ps_set (i := 5) sc_last_of_turns.nd rfl (Or.inr rfl) (pe_callB (call_min2 rfl) (by rfl) T.min (by decide +kernel) (pa_cons (pv 1) (pa_cons (pv 3) pa_nil))))
      (pss_cons (ps_set (i := 6) sc_last_of_turns.nd rfl (Or.inl rfl) (pe_callBK (cr_maxD (K := K) rfl rfl) (by rfl) U.max (by decide +kernel) (pa_cons (pe_lc (own := [("rest", 7)]) (g := gName 7) (tt := tYes) rfl sc_last_of_turns.nd (pi_tup (pv 4)) (blkOk_by (N := ["turns", "turn", "low", "high", "rests", "start", "found", "rest"]) (sc := defScope s_last_of_turns) (by decide +kernel)) (fun _ _ _ _ _ => (pg_name (i := 7) sc_last_of_turns.nd rfl (.inl rfl))) (fun _ _ _ _ _ => pts_nil) (fun _ _ _ _ _ => (pe_op op_sub (pv 5) (pe_op op_modN (pe_op op_sub (pv 5) (pv 7)) (pe_glob (v := .int 12) rfl hCYCLE ⟨tCYCLE, rfl⟩))))) pa_nil) (pk_cons pe_non pk_nil)))
      (pss_one (ps_ret (pe_ifExp (PW.pt (pw_and (pt_cmpR op_notN (pv 6) pe_non (nomark _)) (pw_and1 (pt_cmpR op_ge (pv 6) (pv 2) (nomark _))))) (pv 6) pe_non)))))), ?_⟩
    refine ⟨_, rfl, t, _, rfl, SqT.of ht, rfl, _, _, rfl, _, _, rfl, _, _, rfl, rfl, ?_⟩
    refine norm (N := fun σ _ => _) (σ' := [some (.ref t), some (.int i), some (.int W.lo), some (.int W.hi), some (.ref r), none, none, none]) rfl ?_
    try dsimp only
    refine ⟨_, rfl, _, rfl, _, _, rfl, ?_⟩
    rw [mnI]
    refine normG (σ' := [some (.ref t), some (.int i), some (.int W.lo), some (.int W.hi), some (.ref r), some (.int (min i W.hi)), none, none]) rfl ?_
    try dsimp only
    refine ⟨_, rfl, r, rfl, ⟨_, SqT.of hrs⟩, fun D hD => ?_⟩
    refine lc_tup (K := K) (xs := W.rs.map V.int) (fun b Hb => Hb D = some (.lst (((W.rs.take b).map fun r => (min i W.hi) - ((min i W.hi) - r) % 12).map V.int)) ∧ Same H Hb) ⟨upd_same, Same.new _ (Same.refl H) hD⟩ (fun b Hb _ z => SqT.of (z.2 _ _ hrs)) ?_ ?_
    · rintro b v Hb hv ⟨eD, sb⟩
      rw [List.getElem?_map] at hv
      obtain ⟨y, hy, rfl⟩ := Option.map_eq_some_iff.mp hv
      have hb : b < W.rs.length := (List.getElem?_eq_some_iff.mp hy).1
      refine ⟨rfl, yes_of ?_⟩
      refine ⟨_, rfl, _, rfl, _, rfl, _, _, rfl, rfl, _, _, rfl, rfl, (show (12 : Int) ≠ 0 by decide), _, _, rfl, rfl, ?_⟩
      try dsimp only
      rw [fmod12]
      refine ⟨_, eD, sz1m _ (by rw [List.length_map, List.length_map, List.length_take]; omega), ?_, fun b' o e => ?_⟩
      · rw [upd_same, List.take_add_one, hy, List.map_append, List.map_append]
        rfl
      · rw [upd_ne (ne_of_none e hD)]
        exact sb _ _ e
    rintro H3 ⟨eD, sb⟩
    rw [List.length_map, List.take_length] at eD
    refine ⟨D, _, .non, rfl, rfl, SqL.of eD, fun e0 => ?_, fun m hm least => ?_⟩
    · refine normG (σ' := [some (.ref t), some (.int i), some (.int W.lo), some (.int W.hi), some (.ref r), some (.int (min i W.hi)), some .non, none]) rfl ?_
      try dsimp only
      refine ⟨_, rfl, rfl, _, rfl, if_no rfl ?_⟩
      exact kn H3 sb fun v hv _ => by rw [next_none (t := 0) (List.map_eq_nil_iff.mp e0)] at hv; cases hv
    · refine normG (σ' := [some (.ref t), some (.int i), some (.int W.lo), some (.int W.hi), some (.ref r), some (.int (min i W.hi)), some (.int m), none]) rfl ?_
      try dsimp only
      refine ⟨_, rfl, rfl, _, rfl, if_yes rfl ⟨_, rfl, _, rfl, _, _, rfl, rfl, _, rfl, ite2 (fun z => ?_) (fun z => ?_)⟩⟩
      · have z := of_decide_eq_true z
        have hh := last_has rok hm z
        exact ⟨_, rfl, ks m H3 sb hh.1 hh.2 fun v hv iv => last_most least hv iv⟩
      · refine kn H3 sb fun v hv iv => z (decide_eq_true ?_)
        have := last_most least hv iv
        have := Tn.has_iff.mp hv
        omega
end
end K35
set_option maxHeartbeats 4000000
namespace K35
open PySem PySem.Spec PyProof.Rows L2 Z
def isOwn (ls : List LpM) (n : Int) (a s k : Nat) : Prop := ∃ c : Int, (works ls n)[k]? = some ((a : Int), c, (s : Int))
def numN (cs : List Tn) (first s t : Nat) : Nat := first + wb cs t + ((cs.take s).filter fun T => T.has (t : Int)).length
section
variable {ls : List LpM} {l : LpM} {n : Int} {a s : Nat} {T : Tn}
theorem own_is (ok : ∀ l ∈ ls, LpOk l) (hl : ls[a]? = some l) (hT : (cols l n)[s]? = some T) (k : Nat) : isOwn ls n a s k ↔ ∃ t : Nat, T.has (t : Int) = true ∧ k = numN (cols l n) (pre (tabsOf ls n) a) s t := by
  have okS : ∀ l ∈ ls, ∀ s ∈ l.sts, StOk s := fun l hl => (lpOk_st (ok l hl)).2
  constructor
  · rintro ⟨c, hk⟩
    obtain ⟨a', l', t, i, s', hl', ht, h3, h4, e⟩ := works_pos ok hk
    injection e with e1 e2
    injection e2 with e2 e3
    obtain rfl : a = a' := by omega
    obtain rfl : s = s' := by omega
    rw [hl] at hl'
    cases hl'
    have h5 := dn_mem.mp (List.mem_of_getElem? h3)
    have h6 := dn_place h3
    refine ⟨t, ?_, ?_⟩
    · have h7 := h5.2
      unfold dnAt at h7
      rw [hT] at h7
      exact h7
    · unfold numN
      omega
  · rintro ⟨t, ht, rfl⟩
    have hi := cols_hi T (List.mem_of_getElem? hT)
    have h1 := (Tn.has_iff.mp ht).2.1
    have sl := (List.getElem?_eq_some_iff.mp hT).1
    have hdn : dnAt (cols l n) t s = true := by
      unfold dnAt
      rw [hT]
      exact ht
    have q := works_at okS hl (show t < (lpN l n).toNat by omega) (dn_at sl hdn)
    rw [← Nat.add_assoc] at q
    exact ⟨_, q⟩
theorem pre_mono {tabs : List (List Tn)} {a b : Nat} (h : a ≤ b) : pre tabs a ≤ pre tabs b := by
  have z := List.take_append_drop a (tabs.take b)
  rw [List.take_take, Nat.min_eq_left h] at z
  unfold pre
  rw [← z, List.map_append, List.sum_append]
  exact Nat.le_add_right _ _
/-- a place between two loops' first numbers is of that loop -/
theorem pre_at {n : Int} {a b t i p k : Nat} {cs : List Tn} (ok : ∀ l ∈ ls, LpOk l) (hcs : (tabsOf ls n)[b]? = some cs) (hd : (dn cs t)[i]? = some p) (ek : k = pre (tabsOf ls n) b + (wb cs t + i)) (h1 : pre (tabsOf ls n) a ≤ k) (h2 : k < pre (tabsOf ls n) (a + 1)) : b = a := by
  obtain ⟨l, hl, rfl⟩ := tabs_at hcs
  have okl := ok l (List.mem_of_getElem? hl)
  have tN := (dn_turn (List.mem_of_getElem? hd) (lpOk_st okl).2).1
  have hi := (List.getElem?_eq_some_iff.mp hd).1
  have h3 := wb_succ (cols := cols l n) (t := t)
  have h4 := wb_mono (cols := cols l n) (show t + 1 ≤ (lpN l n).toNat by omega)
  have h5 : wb (cols l n) (lpN l n).toNat = allOf (cols l n) := wb_all (fun T hT => (cols_good T hT).lo) cols_hi
  have h6 := pre_succ hcs
  rcases Nat.lt_trichotomy b a with q | q | q
  · have := pre_mono (tabs := tabsOf ls n) (show b + 1 ≤ a by omega)
    omega
  · exact q
  · have := pre_mono (tabs := tabsOf ls n) (show a + 1 ≤ b by omega)
    omega
theorem cnt_lt {cs : List Tn} {t s : Nat} (hT : cs[s]? = some T) (h : T.has (t : Int) = true) : ((cs.take s).filter fun T => T.has (t : Int)).length < (dn cs t).length := by
  rw [dn_len]
  have e : cs.filter (fun T => T.has (t : Int)) = (cs.take (s + 1)).filter (fun T => T.has (t : Int)) ++ (cs.drop (s + 1)).filter (fun T => T.has (t : Int)) := by
    rw [← List.filter_append, List.take_append_drop]
  have step := filt_snoc (p := fun T : Tn => T.has (t : Int)) hT
  rw [if_pos h] at step
  rw [e, step, List.length_append, List.length_append]
  exact Nat.lt_of_lt_of_le (Nat.lt_succ_self _) (Nat.le_add_right _ _)
theorem numN_lt {cs : List Tn} {first s t t' : Nat} (hT : cs[s]? = some T) (h : T.has (t : Int) = true) (lt : t < t') : numN cs first s t < first + wb cs t' := by
  have h1 := cnt_lt hT h
  have h2 := wb_succ (cols := cs) (t := t)
  have h3 := wb_mono (cols := cs) (show t + 1 ≤ t' by omega)
  unfold numN
  omega
theorem numN_mono {cs : List Tn} {first s t t' : Nat} (hT : cs[s]? = some T) (h : T.has (t : Int) = true) (le : t ≤ t') : numN cs first s t ≤ numN cs first s t' := by
  by_cases e : t = t'
  · rw [e]
    exact Nat.le_refl _
  · have := numN_lt (first := first) hT h (show t < t' by omega)
    unfold numN at this ⊢
    omega
/-- below and from a place on -/
theorem cnt_ge {cs : List Tn} {t a b : Nat} (h : a ≤ b) : ((cs.take a).filter fun T => T.has (t : Int)).length ≤ ((cs.take b).filter fun T => T.has (t : Int)).length := by
  have e : cs.take b = cs.take a ++ (cs.take b).drop a := by
    have z := List.take_append_drop a (cs.take b)
    rw [List.take_take, Nat.min_eq_left h] at z
    exact z.symm
  rw [e, List.filter_append, List.length_append]
  exact Nat.le_add_right _ _
theorem num_ge {cs : List Tn} {first s turn i place t : Nat} (hT : cs[s]? = some T) (h : T.has (t : Int) = true) (hd : (dn cs turn)[i]? = some place) : first + (wb cs turn + i) ≤ numN cs first s t ↔ (if place ≤ s then turn else turn + 1) ≤ t := by
  have hi := (List.getElem?_eq_some_iff.mp hd).1
  have pl := dn_place hd
  have hp := dn_mem.mp (List.mem_of_getElem? hd)
  rcases Nat.lt_trichotomy t turn with q | q | q
  · have := numN_lt (first := first) hT h q
    constructor
    · intro z
      omega
    · split <;> omega
  · subst q
    unfold numN
    by_cases z : place ≤ s
    · rw [if_pos z]
      have := cnt_ge (cs := cs) (t := t) z
      constructor <;> omega
    · rw [if_neg z]
      have h1 := cnt_ge (cs := cs) (t := t) (show s + 1 ≤ place by omega)
      have step := filt_snoc (p := fun T : Tn => T.has (t : Int)) hT
      rw [if_pos h] at step
      rw [step, List.length_append] at h1
      have : [T].length = 1 := rfl
      constructor <;> omega
  · have h2 := wb_succ (cols := cs) (t := turn)
    have h3 := wb_mono (cols := cs) (show turn + 1 ≤ t by omega)
    unfold numN
    constructor
    · intro _
      split <;> omega
    · intro _
      omega
theorem num_le {cs : List Tn} {first s turn i place t : Nat} (hT : cs[s]? = some T) (h : T.has (t : Int) = true) (hd : (dn cs turn)[i]? = some place) : numN cs first s t ≤ first + (wb cs turn + i) ↔ (t : Int) ≤ (if s ≤ place then (turn : Int) else (turn : Int) - 1) := by
  have hi := (List.getElem?_eq_some_iff.mp hd).1
  have pl := dn_place hd
  have hp := dn_mem.mp (List.mem_of_getElem? hd)
  rcases Nat.lt_trichotomy t turn with q | q | q
  · have := numN_lt (first := first) hT h q
    constructor
    · intro _
      split <;> omega
    · intro _
      omega
  · subst q
    unfold numN
    by_cases z : s ≤ place
    · rw [if_pos z]
      have := cnt_ge (cs := cs) (t := t) z
      constructor <;> omega
    · rw [if_neg z]
      obtain ⟨U, hU⟩ : ∃ U, cs[place]? = some U := ⟨_, List.getElem?_eq_getElem hp.1⟩
      have hp2 := hp.2
      unfold dnAt at hp2
      rw [hU] at hp2
      have h1 := cnt_ge (cs := cs) (t := t) (show place + 1 ≤ s by omega)
      have step := filt_snoc (p := fun T : Tn => T.has (t : Int)) hU
      rw [if_pos hp2] at step
      rw [step, List.length_append] at h1
      have : [U].length = 1 := rfl
      constructor <;> omega
  · have h2 := wb_succ (cols := cs) (t := turn)
    have h3 := wb_mono (cols := cs) (show turn + 1 ≤ t by omega)
    unfold numN
    constructor
    · intro _
      omega
    · split <;> (intro _; omega)
end
end K35
set_option maxHeartbeats 4000000
namespace K35
open PySem PySem.Spec PyProof.Rows L2 Z
def spNW (K : PySem.W.Frag) : Sp := fun vs H Q E => ∃ (v : V) (ls : List LpM) (nv : V) (num a : Int) (sv : V), vs = [v, nv, .int num, .int a, sv] ∧ PrOb K H v ls ∧ ls.length ≤ 6 ∧ (∀ l ∈ ls, LpOk l) ∧ (¬ (0 ≤ a ∧ a ≤ (ls.length : Int) - 1) → RzV K "NoLoop" ["loop"] [.int a] H E) ∧
  ∀ (j : Nat) (l : LpM), a = (j : Int) → ls[j]? = some l → (IntV H sv false ∧ RzV K "NoStatement" ["loop", "statement"] [.int a, sv] H E) ∨ ∃ k : Int, sv = .int k ∧ (¬ (0 ≤ k ∧ k ≤ (l.sts.length : Int) - 1) → RzV K "NoStatement" ["loop", "statement"] [.int a, .int k] H E) ∧
    (0 ≤ k ∧ k ≤ (l.sts.length : Int) - 1 → Sz K H nv E fun n => (∀ H', Same H H' → (∀ x : Nat, isOwn ls n j k.toNat x → num ≤ (x : Int) → False) → Q .non H') ∧
      ∀ (x : Nat) H', Same H H' → isOwn ls n j k.toNat x → num ≤ (x : Int) → (∀ y : Nat, isOwn ls n j k.toNat y → num ≤ (y : Int) → x ≤ y) → Q (.int (x : Int)) H')
def spLW (K : PySem.W.Frag) : Sp := fun vs H Q E => ∃ (v : V) (ls : List LpM) (nv : V) (num a : Int) (sv : V), vs = [v, nv, .int num, .int a, sv] ∧ PrOb K H v ls ∧ ls.length ≤ 6 ∧ (∀ l ∈ ls, LpOk l) ∧ (¬ (0 ≤ a ∧ a ≤ (ls.length : Int) - 1) → RzV K "NoLoop" ["loop"] [.int a] H E) ∧
  ∀ (j : Nat) (l : LpM), a = (j : Int) → ls[j]? = some l → (IntV H sv false ∧ RzV K "NoStatement" ["loop", "statement"] [.int a, sv] H E) ∨ ∃ k : Int, sv = .int k ∧ (¬ (0 ≤ k ∧ k ≤ (l.sts.length : Int) - 1) → RzV K "NoStatement" ["loop", "statement"] [.int a, .int k] H E) ∧
    (0 ≤ k ∧ k ≤ (l.sts.length : Int) - 1 → Sz K H nv E fun n => (∀ H', Same H H' → (∀ x : Nat, isOwn ls n j k.toNat x → (x : Int) < num → False) → Q .non H') ∧
      ∀ (x : Nat) H', Same H H' → isOwn ls n j k.toNat x → (x : Int) < num → (∀ y : Nat, isOwn ls n j k.toNat y → (y : Int) < num → y ≤ x) → Q (.int (x : Int)) H')
section
variable {P : Program} {w : World} {K : PySem.W.Frag} {mg : Str → Option Value} {base : Heap}
theorem sc_next_work : FnScope ["program", "n", "number", "loop", "statement", "tables", "first", "columns", "start", "_", "turn", "place", "found"] ["program", "n", "number", "loop", "statement"] (defScope s_next_work) := ⟨rfl, rfl, rfl, by decide +kernel, rfl, by decide +kernel, by decide +kernel⟩
theorem ok_NW {f : Addr} {fd : FuncData} (F : FnP K "next_work" s_next_work f fd) (T : LwTx K mg) (dCkSt : Dx P w K mg base 5 "check_statement" ["program", "loop", "statement"] (spCkSt K)) (dCkZ : Dx P w K mg base 4 "check_size" ["n"] (spCkZ K)) (dTO : Dn P w K mg base 7 "turns_of" ["program", "n"] (spTO K)) (dWIn : Dn P w K mg base 3 "works_in" ["columns"] spWIn)
    (dPos : Dn P w K mg base 4 "position_of" ["program", "n", "tables", "number"] spPos) (dNextT : Dn P w K mg base 1 "next_of_turns" ["turns", "turn"] spNextT) (dNAt : Dn P w K mg base 4 "number_at" ["tables", "loop", "turn", "statement"] spNAt) :
    FnOk P w K mg base (L2.CX P w) 8 f fd ["program", "n", "number", "loop", "statement"] (spNW K) := by
  refine F.ok sc_next_work (fun vs H Q E h => ?_) (fun cdv A outer s H vs Q E hr h => ?_)
  · obtain ⟨v, ls, nv, num, a, sv, rfl, _⟩ := h
    rfl
  · obtain ⟨v, ls, nv, num, a, sv, rfl, hP, l6, ok, kL, kS⟩ := h
    refine ⟨_, ((pss_cons (ps_expr (pe_dx (K := K) dCkSt rfl hr (fun σ => passAt (takes_of rfl rfl rfl rfl) σ) (pa_cons (pv 0) (pa_cons (pv 3) (pa_cons (pv 4) pa_nil)))))
      (pss_cons (ps_expr (pe_dx (K := K) dCkZ rfl hr (fun σ => passAt (takes_of rfl rfl rfl rfl) σ) (pa_cons (pv 1) pa_nil)))
      (pss_cons (ps_set (i := 5) sc_next_work.nd rfl (Or.inl rfl) (pe_dn dTO hr (pa_cons (pv 0) (pa_cons (pv 1) pa_nil))))
      (pss_cons (ps_set (i := 6) sc_next_work.nd rfl (Or.inl rfl) (pe_callB (cr_sum rfl) (by rfl) T.sum (by decide +kernel) (pa_cons (pe_lc (own := [("columns", 7)]) (g := gName 7) (tt := tYes) rfl sc_next_work.nd (pi_list (pe_slice sl_list (pv 5) po_none (po_some (pv 3)))) (blkOk_by (N := ["program", "n", "number", "loop", "statement", "tables", "first", "columns", "start", "_", "turn", "place", "found"]) (sc := defScope s_next_work) (by decide +kernel)) (fun _ _ _ _ _ => (pg_name (i := 7) sc_next_work.nd rfl (.inl rfl))) (fun _ _ _ _ _ => pts_nil) (fun _ _ _ _ _ => (pe_dn dWIn hr (pa_cons (pv 7) pa_nil)))) pa_nil)))
      (pss_cons (ps_if (pt_cmpR op_ge (pv 2) (pe_op op_add (pv 6) (pe_dn dWIn hr (pa_cons (pe_ix ix_list (pv 5) (pv 3) (fun _ _ => rfl)) pa_nil))) (nomark _)) (pss_one (ps_ret pe_non)) pss_nil)
      (pss_cons (ps_set (i := 8) sc_next_work.nd rfl (Or.inl rfl) pe_int)
      (pss_cons (ps_if (pt_cmpR op_gt (pv 2) (pv 6) (nomark _)) (pss_cons (ps_asg (pe_dn dPos hr (pa_cons (pv 0) (pa_cons (pv 1) (pa_cons (pv 5) (pa_cons (pv 2) pa_nil))))) (pg_tup (by rfl) (pgs_cons (pg_name (i := 9) sc_next_work.nd rfl (.inl rfl)) (pgs_cons (pg_name (i := 10) sc_next_work.nd rfl (.inl rfl)) (pgs_cons (pg_name (i := 11) sc_next_work.nd rfl (.inl rfl)) pgs_nil)))))
      (pss_one (ps_set (i := 8) sc_next_work.nd rfl (Or.inl rfl) (pe_ifExp (pt_cmpR op_le (pv 11) (pv 4) (nomark _)) (pv 10) (pe_op op_add (pv 10) pe_int))))) pss_nil)
      (pss_cons (ps_set (i := 12) sc_next_work.nd rfl (Or.inl rfl) (pe_dn dNextT hr (pa_cons (pe_ix ix_list (pe_ix ix_list (pv 5) (pv 3) (fun _ _ => rfl)) (pv 4) (fun _ _ => rfl)) (pa_cons (pv 8) pa_nil))))
      (pss_one (ps_ret (pe_ifExp (pt_cmpR op_isN (pv 12) pe_non (nomark _)) pe_non (pe_dn dNAt hr (pa_cons (pv 5) (pa_cons (pv 3) (pa_cons (pv 12) (pa_cons (pv 4) pa_nil))))))))))))))))), ?_⟩
    have okS : ∀ l ∈ ls, ∀ s ∈ l.sts, StOk s := fun l hl => (lpOk_st (ok l hl)).2
    refine ⟨_, rfl, _, rfl, _, rfl, v, ls, a, sv, rfl, hP, kL, fun j l ea hl => ?_⟩
    subst ea
    rcases kS j l rfl hl with ⟨iv, k⟩ | ⟨k, rfl, k3, k4⟩
    · exact .inl ⟨iv, k⟩
    refine .inr ⟨k, rfl, k3, fun hk => ?_⟩
    have hz := k4 hk
    refine ⟨_, rfl, nv, rfl, ?_⟩
    rcases hz with ⟨iv, k⟩ | ⟨n, rfl, k1, k2⟩
    · exact .inl ⟨iv, k⟩
    refine .inr ⟨n, rfl, k1, fun hn => ?_⟩
    obtain ⟨kN, kF⟩ := k2 hn
    obtain ⟨st, rfl⟩ : ∃ st : Nat, k = (st : Int) := ⟨k.toNat, by omega⟩
    rw [Int.toNat_natCast] at kN kF
    obtain ⟨sm, hs⟩ : ∃ sm, l.sts[st]? = some sm := ⟨_, List.getElem?_eq_getElem (by omega)⟩
    have hT : (cols l n)[st]? = some (dtn l n sm.gds) := by
      unfold cols
      rw [List.getElem?_map, hs]
      rfl
    have gT := dtn_good (l := l) (n := n) (gds := sm.gds)
    obtain ⟨W, hW⟩ : ∃ W, W = dtn l n sm.gds := ⟨_, rfl⟩
    rw [← hW] at hT gT
    have jl := (List.getElem?_eq_some_iff.mp hl).1
    have hcs : (tabsOf ls n)[j]? = some (cols l n) := by
      unfold tabsOf
      rw [List.getElem?_map, hl]
      rfl
    have own := own_is ok hl hT
    refine ⟨_, rfl, _, rfl, v, ls, n, rfl, hP, l6, ok, fun tb H1 s1 hTb => ?_⟩
    obtain ⟨ps, hps, fps⟩ := id hTb
    have tok := tabs_ok (n := n) l6 ok
    have lps : ps.length = ls.length := by rw [fps.1, tabs_len]
    refine normG (σ' := [some v, some (.int n), some (.int num), some (.int (j : Int)), some (.int (st : Int)), some (.ref tb), none, none, none, none, none, none, none]) rfl ?_
    try dsimp only
    refine ⟨_, rfl, _, rfl, _, rfl, tb, ps, rfl, SqL.of hps, fun D0 hD0 => ?_⟩
    rw [cut_take]
    have s2 := Same.new (.lst (ps.take j)) (Same.refl H1) hD0
    have eD0 : (upd H1 D0 (.lst (ps.take j))) D0 = some (.lst (ps.take j)) := upd_same
    obtain ⟨H2, eH2⟩ : ∃ X, X = upd H1 D0 (.lst (ps.take j)) := ⟨_, rfl⟩
    rw [← eH2] at s2 eD0 ⊢
    refine ⟨D0, rfl, ⟨_, SqL.of eD0⟩, fun D hD => ?_⟩
    refine lc_list (K := K) (xs := ps.take j) (fun b Hb => Hb D = some (.lst ((((tabsOf ls n).take b).map fun cs => (allOf cs : Int)).map V.int)) ∧ Same H2 Hb) ⟨upd_same, Same.new _ (Same.refl H2) hD⟩ (fun b Hb _ z => SqL.of (z.2 _ _ eD0)) ?_ ?_
    · rintro b v Hb hv ⟨eD, sb⟩
      have hv2 : ps[b]? = some v := by
        rw [List.getElem?_take] at hv
        split at hv
        · exact hv
        · cases hv
      obtain ⟨cs, hcs, l0, xs, rfl, hc⟩ := (fps.imp fun _ _ z => z.same (s2.trans sb)).at hv2
      have bl := (List.getElem?_eq_some_iff.mp hcs).1
      have tl := tok.len
      refine ⟨rfl, yes_of ⟨_, rfl, l0, xs, cs, rfl, hc, tok.few _ (List.mem_of_getElem? hcs), fun H' s' => ?_⟩⟩
      rw [wIn_is (tok.good _ (List.mem_of_getElem? hcs))]
      have eD2 := s' _ _ eD
      refine ⟨_, eD2, sz1m _ (by rw [List.length_map, List.length_map, List.length_take]; omega), ?_, fun b' o e => ?_⟩
      · rw [upd_same, List.take_add_one, hcs, List.map_append, List.map_append]
        rfl
      · rw [upd_ne (ne_of_none e hD)]
        exact s' _ _ (sb _ _ e)
    rintro H3 ⟨eD, s3⟩
    rw [List.length_take, Nat.min_eq_left (by omega)] at eD
    refine ⟨D, _, rfl, SqL.of eD, ?_⟩
    rw [sum_cast]
    obtain ⟨A, hA⟩ : ∃ A : Nat, A = pre (tabsOf ls n) j := ⟨_, rfl⟩
    refine normG (σ' := [some v, some (.int n), some (.int num), some (.int (j : Int)), some (.int (st : Int)), some (.ref tb), some (.int (A : Int)), none, none, none, none, none, none]) (by rw [hA]; rfl) ?_
    try dsimp only
    have s13 := s2.trans s3
    have hps3 := s13 _ _ hps
    obtain ⟨vc, hvc⟩ : ∃ vc, ps[j]? = some vc := ⟨_, List.getElem?_eq_getElem (by omega)⟩
    obtain ⟨cs1, hcs1, l0, xs0, rfl, hc⟩ := (fps.imp fun _ _ z => z.same s13).at hvc
    rw [hcs] at hcs1
    cases hcs1
    refine ⟨_, rfl, _, rfl, _, rfl, _, rfl, tb, _, _, _, rfl, rfl, SqL.of hps3, atI_nat hvc, l0, xs0, _, rfl, hc, tok.few _ (List.mem_of_getElem? hcs), fun H4 s4 => ?_⟩
    rw [wIn_is (tok.good _ (List.mem_of_getElem? hcs))]
    have s14 := s1.trans (s13.trans s4)
    have N0 := lpN_0 l n
    have top : wb (cols l n) (lpN l n).toNat = allOf (cols l n) := wb_all (fun T hT => (cols_good T hT).lo) cols_hi
    have tb_ : ∀ {t : Nat}, W.has (t : Int) = true → t < (lpN l n).toNat := fun {t} z => by
      have h1 := (Tn.has_iff.mp z).2.1
      have h2 := gT.2
      omega
    rw [← hA] at own
    refine ⟨_, _, rfl, rfl, _, _, rfl, rfl, _, rfl, ite2 (fun z => ?_) (fun z => ?_)⟩
    · have z := of_decide_eq_true z
      refine kN H4 s14 fun x hx le => ?_
      obtain ⟨t, h1, rfl⟩ := (own x).mp hx
      have := numN_lt (first := A) hT h1 (tb_ h1)
      omega
    refine un_next ?_
    try dsimp only
    have z : ¬ (A : Int) + (allOf (cols l n) : Int) ≤ num := fun q => z (decide_eq_true q)
    refine normG (σ' := [some v, some (.int n), some (.int num), some (.int (j : Int)), some (.int (st : Int)), some (.ref tb), some (.int (A : Int)), none, some (.int 0), none, none, none, none]) rfl ?_
    try dsimp only
    have hTb4 := hTb.same (s13.trans s4)
    have preS : pre (tabsOf ls n) (j + 1) = A + allOf (cols l n) := by rw [hA, pre_succ hcs]
    have preL := pre_mono (tabs := tabsOf ls n) (show j + 1 ≤ (tabsOf ls n).length by rw [tabs_len]; omega)
    refine mid (fun σ' H' => ∃ (S : Int) (v9 v10 v11 : Option V), σ' = [some v, some (.int n), some (.int num), some (.int (j : Int)), some (.int (st : Int)), some (.ref tb), some (.int (A : Int)), none, some (.int S), v9, v10, v11, none] ∧ Same H4 H' ∧ ∀ t : Nat, W.has (t : Int) = true → (num ≤ (numN (cols l n) A st t : Int) ↔ S ≤ (t : Int))) (fun key => ?_) ?_
    · refine ⟨_, rfl, _, rfl, _, _, rfl, rfl, _, rfl, ite2 (fun y => ?_) (fun y => ?_)⟩
      · have y := of_decide_eq_true y
        obtain ⟨kk, rfl⟩ : ∃ kk : Nat, num = (kk : Int) := ⟨num.toNat, by omega⟩
        refine ⟨_, rfl, _, rfl, _, rfl, _, rfl, v, _, tb, _, kk, rfl, hTb4, tok, by omega, fun a' t i s' cs q H5 hcs' ek hd s5 hq => ?_⟩
        obtain rfl := (pre_at ok hcs' hd ek (by rw [← hA]; omega) (by omega)).symm
        rw [hcs] at hcs'
        cases hcs'
        rw [← hA] at ek
        refine ⟨q, _, rfl, SqT.of hq, rfl, _, _, rfl, _, _, rfl, _, _, rfl, rfl, ?_⟩
        refine norm (N := fun σ _ => _) (σ' := [some v, some (.int n), some (.int (kk : Int)), some (.int (j : Int)), some (.int (st : Int)), some (.ref tb), some (.int (A : Int)), none, some (.int 0), some (.int (j : Int)), some (.int (t : Int)), some (.int (s' : Int)), none]) rfl ?_
        try dsimp only
        have ge := fun (t0 : Nat) (h0 : W.has (t0 : Int) = true) => num_ge (first := A) (t := t0) hT h0 hd
        refine ⟨_, rfl, _, rfl, _, _, rfl, rfl, _, rfl, ite2 (fun x => ?_) (fun x => ?_)⟩
        · have x := of_decide_eq_true x
          refine ⟨_, rfl, key _ _ ⟨(t : Int), _, _, _, rfl, s5, fun t0 h0 => ?_⟩⟩
          have := ge t0 h0
          rw [← ek, if_pos (show s' ≤ st by omega)] at this
          omega
        · have x : ¬ (s' : Int) ≤ (st : Int) := fun q => x (decide_eq_true q)
          refine ⟨_, rfl, _, _, rfl, rfl, key _ _ ⟨(t : Int) + 1, _, _, _, rfl, s5, fun t0 h0 => ?_⟩⟩
          have := ge t0 h0
          rw [← ek, if_neg (show ¬ s' ≤ st by omega)] at this
          omega
      · have y : ¬ (A : Int) < num := fun q => y (decide_eq_true q)
        refine key _ _ ⟨0, _, _, _, rfl, Same.refl _, fun t0 h0 => ?_⟩
        have : A ≤ numN (cols l n) A st t0 := by
          unfold numN
          omega
        omega
    rintro σ H5 ⟨S, v9, v10, v11, rfl, s5, eqv⟩
    have s15 := s14.trans s5
    have hTb5 := hTb4.same s5
    have hc5 := (hc.same s4).same s5
    obtain ⟨vt, hvt, dT⟩ := DTs.get st _ hc5.2.1 (by rw [List.getElem?_map, hT]; rfl)
    obtain ⟨tt, rfl, aW⟩ := dt_tn dT
    refine ⟨_, rfl, _, rfl, tb, _, _, _, rfl, rfl, SqL.of (s5 _ _ (s4 _ _ hps3)), atI_nat hvc, _, rfl, l0, _, _, _, rfl, rfl, SqL.of hc5.1, atI_nat hvt, _, rfl, tt, W, S, rfl, aW, gT.1.rs, gT.1.len, fun H6 s6 no => ?_, fun m H6 s6 hm le least => ?_⟩
    · refine normG (σ' := [some v, some (.int n), some (.int num), some (.int (j : Int)), some (.int (st : Int)), some (.ref tb), some (.int (A : Int)), none, some (.int S), v9, v10, v11, some .non]) rfl ?_
      try dsimp only
      refine ⟨_, rfl, rfl, _, rfl, if_yes rfl (kN H6 (s15.trans s6) fun x hx lx => ?_)⟩
      obtain ⟨t, h1, rfl⟩ := (own x).mp hx
      exact no _ h1 ((eqv t h1).mp lx)
    · refine normG (σ' := [some v, some (.int n), some (.int num), some (.int (j : Int)), some (.int (st : Int)), some (.ref tb), some (.int (A : Int)), none, some (.int S), v9, v10, v11, some (.int m)]) rfl ?_
      try dsimp only
      have m0 : 0 ≤ m := Int.le_trans gT.1.lo (Tn.has_iff.mp hm).1
      obtain ⟨mt, rfl⟩ : ∃ mt : Nat, m = (mt : Int) := ⟨m.toNat, by omega⟩
      refine ⟨_, rfl, rfl, _, rfl, if_no rfl ⟨_, rfl, _, rfl, _, rfl, _, rfl, tb, _, j, st, (mt : Int), _, rfl, hTb5.same s6, tok, hcs, m0, fun H7 s7 => ?_⟩⟩
      rw [Int.toNat_natCast, ← hA]
      refine kF (numN (cols l n) A st mt) H7 ((s15.trans s6).trans s7) ((own _).mpr ⟨mt, hm, rfl⟩) ((eqv mt hm).mpr le) fun y hy ly => ?_
      obtain ⟨t, h1, rfl⟩ := (own y).mp hy
      have := least _ h1 ((eqv t h1).mp ly)
      exact numN_mono hT hm (by omega)
theorem sc_last_work : FnScope ["program", "n", "number", "loop", "statement", "tables", "first", "columns", "end", "_", "turn", "place", "found"] ["program", "n", "number", "loop", "statement"] (defScope s_last_work) := ⟨rfl, rfl, rfl, by decide +kernel, rfl, by decide +kernel, by decide +kernel⟩
theorem ok_LW {f : Addr} {fd : FuncData} (F : FnP K "last_work" s_last_work f fd) (T : LwTx K mg) (dCkSt : Dx P w K mg base 5 "check_statement" ["program", "loop", "statement"] (spCkSt K)) (dCkZ : Dx P w K mg base 4 "check_size" ["n"] (spCkZ K)) (dTO : Dn P w K mg base 7 "turns_of" ["program", "n"] (spTO K)) (dWIn : Dn P w K mg base 3 "works_in" ["columns"] spWIn)
    (dPos : Dn P w K mg base 4 "position_of" ["program", "n", "tables", "number"] spPos) (dLastT : Dn P w K mg base 1 "last_of_turns" ["turns", "turn"] spLastT) (dNAt : Dn P w K mg base 4 "number_at" ["tables", "loop", "turn", "statement"] spNAt) (L : LMs P w K mg base) :
    FnOk P w K mg base (L2.CX P w) 8 f fd ["program", "n", "number", "loop", "statement"] (spLW K) := by
  refine F.ok sc_last_work (fun vs H Q E h => ?_) (fun cdv A outer s H vs Q E hr h => ?_)
  · obtain ⟨v, ls, nv, num, a, sv, rfl, _⟩ := h
    rfl
  · obtain ⟨v, ls, nv, num, a, sv, rfl, hP, l6, ok, kL, kS⟩ := h
    obtain ⟨fdm, Fm, hbm, cm⟩ := L.mt
    refine ⟨_, ((pss_cons (ps_expr (pe_dx (K := K) dCkSt rfl hr (fun σ => passAt (takes_of rfl rfl rfl rfl) σ) (pa_cons (pv 0) (pa_cons (pv 3) (pa_cons (pv 4) pa_nil)))))
      (pss_cons (ps_expr (pe_dx (K := K) dCkZ rfl hr (fun σ => passAt (takes_of rfl rfl rfl rfl) σ) (pa_cons (pv 1) pa_nil)))
      (pss_cons (ps_set (i := 5) sc_last_work.nd rfl (Or.inl rfl) (pe_dn dTO hr (pa_cons (pv 0) (pa_cons (pv 1) pa_nil))))
      (pss_cons (ps_set (i := 6) sc_last_work.nd rfl (Or.inl rfl) (pe_callB (cr_sum rfl) (by rfl) T.sum (by decide +kernel) (pa_cons (pe_lc (own := [("columns", 7)]) (g := gName 7) (tt := tYes) rfl sc_last_work.nd (pi_list (pe_slice sl_list (pv 5) po_none (po_some (pv 3)))) (blkOk_by (N := ["program", "n", "number", "loop", "statement", "tables", "first", "columns", "end", "_", "turn", "place", "found"]) (sc := defScope s_last_work) (by decide +kernel)) (fun _ _ _ _ _ => (pg_name (i := 7) sc_last_work.nd rfl (.inl rfl))) (fun _ _ _ _ _ => pts_nil) (fun _ _ _ _ _ => (pe_dn dWIn hr (pa_cons (pv 7) pa_nil)))) pa_nil)))
      (pss_cons (ps_if (pt_cmpR op_le (pv 2) (pv 6) (nomark _)) (pss_one (ps_ret pe_non)) pss_nil)
      (pss_cons (ps_set (i := 8) sc_last_work.nd rfl (Or.inl rfl) (pe_op op_sub (pe_meth (pe_ix (ix_tupK (K := K) rfl) (pe_fld (pv 0) rfl) (pv 3) (fun _ _ => rfl)) T.clL cm Fm (hr.mono (by decide)) hbm .nil pass0 (pa_cons (pv 1) pa_nil)) pe_int))
      (pss_cons (ps_if (pt_cmpR op_lt (pv 2) (pe_op op_add (pv 6) (pe_dn dWIn hr (pa_cons (pe_ix ix_list (pv 5) (pv 3) (fun _ _ => rfl)) pa_nil))) (nomark _)) (pss_cons (ps_asg (pe_dn dPos hr (pa_cons (pv 0) (pa_cons (pv 1) (pa_cons (pv 5) (pa_cons (pe_op op_sub (pv 2) pe_int) pa_nil))))) (pg_tup (by rfl) (pgs_cons (pg_name (i := 9) sc_last_work.nd rfl (.inl rfl)) (pgs_cons (pg_name (i := 10) sc_last_work.nd rfl (.inl rfl)) (pgs_cons (pg_name (i := 11) sc_last_work.nd rfl (.inl rfl)) pgs_nil)))))
      (pss_one (ps_set (i := 8) sc_last_work.nd rfl (Or.inl rfl) (pe_ifExp (pt_cmpR op_ge (pv 11) (pv 4) (nomark _)) (pv 10) (pe_op op_sub (pv 10) pe_int))))) pss_nil)
      (pss_cons (ps_set (i := 12) sc_last_work.nd rfl (Or.inl rfl) (pe_dn dLastT hr (pa_cons (pe_ix ix_list (pe_ix ix_list (pv 5) (pv 3) (fun _ _ => rfl)) (pv 4) (fun _ _ => rfl)) (pa_cons (pv 8) pa_nil))))
      (pss_one (ps_ret (pe_ifExp (pt_cmpR op_isN (pv 12) pe_non (nomark _)) pe_non (pe_dn dNAt hr (pa_cons (pv 5) (pa_cons (pv 3) (pa_cons (pv 12) (pa_cons (pv 4) pa_nil))))))))))))))))), ?_⟩
    have okS : ∀ l ∈ ls, ∀ s ∈ l.sts, StOk s := fun l hl => (lpOk_st (ok l hl)).2
    refine ⟨_, rfl, _, rfl, _, rfl, v, ls, a, sv, rfl, hP, kL, fun j l ea hl => ?_⟩
    subst ea
    rcases kS j l rfl hl with ⟨iv, k⟩ | ⟨k, rfl, k3, k4⟩
    · exact .inl ⟨iv, k⟩
    refine .inr ⟨k, rfl, k3, fun hk => ?_⟩
    have hz := k4 hk
    refine ⟨_, rfl, nv, rfl, ?_⟩
    rcases hz with ⟨iv, k⟩ | ⟨n, rfl, k1, k2⟩
    · exact .inl ⟨iv, k⟩
    refine .inr ⟨n, rfl, k1, fun hn => ?_⟩
    obtain ⟨kN, kF⟩ := k2 hn
    obtain ⟨st, rfl⟩ : ∃ st : Nat, k = (st : Int) := ⟨k.toNat, by omega⟩
    rw [Int.toNat_natCast] at kN kF
    obtain ⟨sm, hs⟩ : ∃ sm, l.sts[st]? = some sm := ⟨_, List.getElem?_eq_getElem (by omega)⟩
    have hT : (cols l n)[st]? = some (dtn l n sm.gds) := by
      unfold cols
      rw [List.getElem?_map, hs]
      rfl
    have gT := dtn_good (l := l) (n := n) (gds := sm.gds)
    obtain ⟨W, hW⟩ : ∃ W, W = dtn l n sm.gds := ⟨_, rfl⟩
    rw [← hW] at hT gT
    have jl := (List.getElem?_eq_some_iff.mp hl).1
    have hcs : (tabsOf ls n)[j]? = some (cols l n) := by
      unfold tabsOf
      rw [List.getElem?_map, hl]
      rfl
    have own := own_is ok hl hT
    refine ⟨_, rfl, _, rfl, v, ls, n, rfl, hP, l6, ok, fun tb H1 s1 hTb => ?_⟩
    obtain ⟨ps, hps, fps⟩ := id hTb
    have tok := tabs_ok (n := n) l6 ok
    have lps : ps.length = ls.length := by rw [fps.1, tabs_len]
    refine normG (σ' := [some v, some (.int n), some (.int num), some (.int (j : Int)), some (.int (st : Int)), some (.ref tb), none, none, none, none, none, none, none]) rfl ?_
    try dsimp only
    refine ⟨_, rfl, _, rfl, _, rfl, tb, ps, rfl, SqL.of hps, fun D0 hD0 => ?_⟩
    rw [cut_take]
    have s2 := Same.new (.lst (ps.take j)) (Same.refl H1) hD0
    have eD0 : (upd H1 D0 (.lst (ps.take j))) D0 = some (.lst (ps.take j)) := upd_same
    obtain ⟨H2, eH2⟩ : ∃ X, X = upd H1 D0 (.lst (ps.take j)) := ⟨_, rfl⟩
    rw [← eH2] at s2 eD0 ⊢
    refine ⟨D0, rfl, ⟨_, SqL.of eD0⟩, fun D hD => ?_⟩
    refine lc_list (K := K) (xs := ps.take j) (fun b Hb => Hb D = some (.lst ((((tabsOf ls n).take b).map fun cs => (allOf cs : Int)).map V.int)) ∧ Same H2 Hb) ⟨upd_same, Same.new _ (Same.refl H2) hD⟩ (fun b Hb _ z => SqL.of (z.2 _ _ eD0)) ?_ ?_
    · rintro b v Hb hv ⟨eD, sb⟩
      have hv2 : ps[b]? = some v := by
        rw [List.getElem?_take] at hv
        split at hv
        · exact hv
        · cases hv
      obtain ⟨cs, hcs, l0, xs, rfl, hc⟩ := (fps.imp fun _ _ z => z.same (s2.trans sb)).at hv2
      have bl := (List.getElem?_eq_some_iff.mp hcs).1
      have tl := tok.len
      refine ⟨rfl, yes_of ⟨_, rfl, l0, xs, cs, rfl, hc, tok.few _ (List.mem_of_getElem? hcs), fun H' s' => ?_⟩⟩
      rw [wIn_is (tok.good _ (List.mem_of_getElem? hcs))]
      have eD2 := s' _ _ eD
      refine ⟨_, eD2, sz1m _ (by rw [List.length_map, List.length_map, List.length_take]; omega), ?_, fun b' o e => ?_⟩
      · rw [upd_same, List.take_add_one, hcs, List.map_append, List.map_append]
        rfl
      · rw [upd_ne (ne_of_none e hD)]
        exact s' _ _ (sb _ _ e)
    rintro H3 ⟨eD, s3⟩
    rw [List.length_take, Nat.min_eq_left (by omega)] at eD
    refine ⟨D, _, rfl, SqL.of eD, ?_⟩
    rw [sum_cast]
    obtain ⟨A, hA⟩ : ∃ A : Nat, A = pre (tabsOf ls n) j := ⟨_, rfl⟩
    refine normG (σ' := [some v, some (.int n), some (.int num), some (.int (j : Int)), some (.int (st : Int)), some (.ref tb), some (.int (A : Int)), none, none, none, none, none, none]) (by rw [hA]; rfl) ?_
    try dsimp only
    have s13 := s2.trans s3
    have hps3 := s13 _ _ hps
    have s13' := s1.trans s13
    have N0 := lpN_0 l n
    have top : wb (cols l n) (lpN l n).toNat = allOf (cols l n) := wb_all (fun T hT => (cols_good T hT).lo) cols_hi
    have tb_ : ∀ {t : Nat}, W.has (t : Int) = true → t < (lpN l n).toNat := fun {t} z => by
      have h1 := (Tn.has_iff.mp z).2.1
      have h2 := gT.2
      omega
    rw [← hA] at own
    refine ⟨_, rfl, _, rfl, _, _, rfl, rfl, _, rfl, ite2 (fun z => ?_) (fun z => ?_)⟩
    · have z := of_decide_eq_true z
      refine kN H3 s13' fun x hx le => ?_
      obtain ⟨t, h1, rfl⟩ := (own x).mp hx
      have : A ≤ numN (cols l n) A st t := by
        unfold numN
        omega
      omega
    refine un_next ?_
    try dsimp only
    have z : ¬ num ≤ (A : Int) := fun q => z (decide_eq_true q)
    obtain ⟨p, xp, yp, rfl, ⟨dx, lt, at_, dk, hp, hlt, hat⟩, fa⟩ := id hP
    obtain ⟨u, hu, hob⟩ := fa.at' hl
    have okl := ok l (List.mem_of_getElem? hl)
    have hob3 := hob.same s13'
    obtain ⟨pl, dl, lo, hi, sts, rfl, hpl⟩ := id hob3.ref
    refine ⟨_, rfl, p, _, dx, _, _, rfl, s13' _ _ hp, T.clP, T.nPL, prf_l _ _ _, _, rfl, lt, _, _, _, rfl, rfl, SqT.same hlt s13', atI_nat hu, pl, dl, _, rfl, hpl, no_mt _ _ _ _ _, _, rfl, _, l, n, rfl, hob3, okl, _, _, rfl, rfl, ?_⟩
    refine normG (σ' := [some (.ref p), some (.int n), some (.int num), some (.int (j : Int)), some (.int (st : Int)), some (.ref tb), some (.int (A : Int)), none, some (.int (lpN l n - 1)), none, none, none, none]) rfl ?_
    try dsimp only
    obtain ⟨vc, hvc⟩ : ∃ vc, ps[j]? = some vc := ⟨_, List.getElem?_eq_getElem (by omega)⟩
    obtain ⟨cs1, hcs1, l0, xs0, rfl, hc⟩ := (fps.imp fun _ _ z => z.same s13).at hvc
    rw [hcs] at hcs1
    cases hcs1
    have hps3 := s13 _ _ hps
    have hTb3 := hTb.same s13
    have preS : pre (tabsOf ls n) (j + 1) = A + allOf (cols l n) := by rw [hA, pre_succ hcs]
    have preL := pre_mono (tabs := tabsOf ls n) (show j + 1 ≤ (tabsOf ls n).length by rw [tabs_len]; omega)
    refine mid (fun σ' H' => ∃ (S : Int) (v9 v10 v11 : Option V), σ' = [some (.ref p), some (.int n), some (.int num), some (.int (j : Int)), some (.int (st : Int)), some (.ref tb), some (.int (A : Int)), none, some (.int S), v9, v10, v11, none] ∧ Same H3 H' ∧ ∀ t : Nat, W.has (t : Int) = true → ((numN (cols l n) A st t : Int) < num ↔ (t : Int) ≤ S)) (fun key => ?_) ?_
    · refine ⟨_, rfl, _, rfl, _, rfl, _, rfl, tb, _, _, _, rfl, rfl, SqL.of hps3, atI_nat hvc, l0, xs0, _, rfl, hc, tok.few _ (List.mem_of_getElem? hcs), fun H4 s4 => ?_⟩
      rw [wIn_is (tok.good _ (List.mem_of_getElem? hcs))]
      refine ⟨_, _, rfl, rfl, _, _, rfl, rfl, _, rfl, ite2 (fun y => ?_) (fun y => ?_)⟩
      · have y := of_decide_eq_true y
        obtain ⟨kk, hkk⟩ : ∃ kk : Nat, num - 1 = (kk : Int) := ⟨(num - 1).toNat, by omega⟩
        refine ⟨_, rfl, _, rfl, _, rfl, _, rfl, _, _, rfl, rfl, _, _, tb, _, kk, (by dsimp only; rw [hkk]; rfl), hTb3.same s4, tok, by omega, fun a' t i s' cs q H5 hcs' ek hd s5 hq => ?_⟩
        obtain rfl := (pre_at ok hcs' hd ek (by rw [← hA]; omega) (by omega)).symm
        rw [hcs] at hcs'
        cases hcs'
        rw [← hA] at ek
        refine ⟨q, _, rfl, SqT.of hq, rfl, _, _, rfl, _, _, rfl, _, _, rfl, rfl, ?_⟩
        refine norm (N := fun σ _ => _) (σ' := [some (.ref p), some (.int n), some (.int num), some (.int (j : Int)), some (.int (st : Int)), some (.ref tb), some (.int (A : Int)), none, some (.int (lpN l n - 1)), some (.int (j : Int)), some (.int (t : Int)), some (.int (s' : Int)), none]) rfl ?_
        try dsimp only
        have ge := fun (t0 : Nat) (h0 : W.has (t0 : Int) = true) => num_le (first := A) (t := t0) hT h0 hd
        refine ⟨_, rfl, _, rfl, _, _, rfl, rfl, _, rfl, ite2 (fun x => ?_) (fun x => ?_)⟩
        · have x := of_decide_eq_true x
          refine ⟨_, rfl, key _ _ ⟨(t : Int), _, _, _, rfl, s4.trans s5, fun t0 h0 => ?_⟩⟩
          have := ge t0 h0
          rw [← ek, if_pos (show st ≤ s' by omega)] at this
          omega
        · have x : ¬ (st : Int) ≤ (s' : Int) := fun q => x (decide_eq_true q)
          refine ⟨_, rfl, _, _, rfl, rfl, key _ _ ⟨(t : Int) - 1, _, _, _, rfl, s4.trans s5, fun t0 h0 => ?_⟩⟩
          have := ge t0 h0
          rw [← ek, if_neg (show ¬ st ≤ s' by omega)] at this
          omega
      · have y : ¬ num < (A : Int) + (allOf (cols l n) : Int) := fun q => y (decide_eq_true q)
        refine key _ _ ⟨_, _, _, _, rfl, s4, fun t0 h0 => ?_⟩
        have h1 := numN_lt (first := A) hT h0 (tb_ h0)
        have h2 := tb_ h0
        omega
    rintro σ H5 ⟨S, v9, v10, v11, rfl, s5, eqv⟩
    have s15 := s13'.trans s5
    have hTb5 := hTb3.same s5
    have hc5 := hc.same s5
    obtain ⟨vt, hvt, dT⟩ := DTs.get st _ hc5.2.1 (by rw [List.getElem?_map, hT]; rfl)
    obtain ⟨tt, rfl, aW⟩ := dt_tn dT
    refine ⟨_, rfl, _, rfl, tb, _, _, _, rfl, rfl, SqL.of (s5 _ _ hps3), atI_nat hvc, _, rfl, l0, _, _, _, rfl, rfl, SqL.of hc5.1, atI_nat hvt, _, rfl, tt, W, S, rfl, aW, gT.1.rs, gT.1.len, fun H6 s6 no => ?_, fun m H6 s6 hm le least => ?_⟩
    · refine normG (σ' := [some (.ref p), some (.int n), some (.int num), some (.int (j : Int)), some (.int (st : Int)), some (.ref tb), some (.int (A : Int)), none, some (.int S), v9, v10, v11, some .non]) rfl ?_
      try dsimp only
      refine ⟨_, rfl, rfl, _, rfl, if_yes rfl (kN H6 (s15.trans s6) fun x hx lx => ?_)⟩
      obtain ⟨t, h1, rfl⟩ := (own x).mp hx
      exact no _ h1 ((eqv t h1).mp lx)
    · refine normG (σ' := [some (.ref p), some (.int n), some (.int num), some (.int (j : Int)), some (.int (st : Int)), some (.ref tb), some (.int (A : Int)), none, some (.int S), v9, v10, v11, some (.int m)]) rfl ?_
      try dsimp only
      have m0 : 0 ≤ m := Int.le_trans gT.1.lo (Tn.has_iff.mp hm).1
      obtain ⟨mt, rfl⟩ : ∃ mt : Nat, m = (mt : Int) := ⟨m.toNat, by omega⟩
      refine ⟨_, rfl, rfl, _, rfl, if_no rfl ⟨_, rfl, _, rfl, _, rfl, _, rfl, tb, _, j, st, (mt : Int), _, rfl, hTb5.same s6, tok, hcs, m0, fun H7 s7 => ?_⟩⟩
      rw [Int.toNat_natCast, ← hA]
      refine kF (numN (cols l n) A st mt) H7 ((s15.trans s6).trans s7) ((own _).mpr ⟨mt, hm, rfl⟩) ((eqv mt hm).mpr le) fun y hy ly => ?_
      obtain ⟨t, h1, rfl⟩ := (own y).mp hy
      have := least _ h1 ((eqv t h1).mp ly)
      exact numN_mono hT h1 (by omega)
end
end K35
set_option maxHeartbeats 4000000
namespace K35
open PySem PySem.Spec PyProof.Rows L2 Z
def ownB (ls : List LpM) (n : Int) (a s x : Nat) : Bool := match (works ls n)[x]? with
  | some w => decide (w.1 = (a : Int)) && decide (w.2.2 = (s : Int))
  | none => false
theorem ownB_iff {ls : List LpM} {n : Int} {a s x : Nat} : ownB ls n a s x = true ↔ isOwn ls n a s x := by
  unfold ownB isOwn
  cases h : (works ls n)[x]? with
  | none => exact ⟨(fun z => by cases z), (fun ⟨_, z⟩ => by cases z)⟩
  | some w =>
    dsimp only
    rw [Bool.and_eq_true, decide_eq_true_eq, decide_eq_true_eq]
    constructor
    · rintro ⟨h1, h2⟩
      exact ⟨w.2.1, by rw [← h1, ← h2]⟩
    · rintro ⟨c, z⟩
      cases z
      exact ⟨rfl, rfl⟩
def cntB (ls : List LpM) (n : Int) (a s x : Nat) : Nat := ((List.range x).filter fun y => ownB ls n a s y).length
section
variable {ls : List LpM} {l : LpM} {n : Int} {a s : Nat} {T : Tn}
theorem cntB_succ {x : Nat} : cntB ls n a s (x + 1) = cntB ls n a s x + if ownB ls n a s x = true then 1 else 0 := by
  unfold cntB
  rw [List.range_succ, List.filter_append, List.length_append]
  congr 1
  by_cases h : ownB ls n a s x = true
  · rw [if_pos h, List.filter_cons_of_pos h]
    rfl
  · rw [if_neg h, List.filter_cons_of_neg h]
    rfl
theorem cntB_none {x : Nat} : ∀ d : Nat, (∀ z, x ≤ z → z < x + d → ¬ isOwn ls n a s z) → cntB ls n a s (x + d) = cntB ls n a s x
  | 0, _ => rfl
  | d + 1, h => by
    rw [show x + (d + 1) = (x + d) + 1 by omega, cntB_succ, cntB_none d fun z h1 h2 => h z h1 (by omega), if_neg fun z => h (x + d) (by omega) (by omega) (ownB_iff.mp z)]
    rfl
theorem cntB_no {x y : Nat} (le : x ≤ y) (h : ∀ z, x ≤ z → z < y → ¬ isOwn ls n a s z) : cntB ls n a s y = cntB ls n a s x := by
  have := cntB_none (ls := ls) (n := n) (a := a) (s := s) (x := x) (y - x) fun z h1 h2 => h z h1 (by omega)
  rw [show x + (y - x) = y by omega] at this
  exact this
theorem cntB_one {x y z : Nat} (hz : isOwn ls n a s z) (h1 : x ≤ z) (h2 : z < y) (h : ∀ z', x ≤ z' → z' < y → isOwn ls n a s z' → z' = z) : cntB ls n a s y = cntB ls n a s x + 1 := by
  rw [cntB_no (show z + 1 ≤ y by omega) fun z' a1 a2 o => by have := h z' (by omega) a2 o; omega, cntB_succ, if_pos (ownB_iff.mpr hz), cntB_no h1 fun z' a1 a2 o => by have := h z' a1 (by omega) o; omega]
theorem cntB_lt {x y z : Nat} (hz : isOwn ls n a s z) (h1 : x ≤ z) (h2 : z < y) : cntB ls n a s x < cntB ls n a s y := by
  have mono : ∀ d u : Nat, cntB ls n a s u ≤ cntB ls n a s (u + d) := fun d u => by
    induction d with
    | zero => exact Nat.le_refl _
    | succ d ih =>
      rw [← Nat.add_assoc, cntB_succ]
      omega
  have e1 := mono (z - x) x
  have e2 := mono (y - (z + 1)) (z + 1)
  rw [show x + (z - x) = z by omega] at e1
  rw [show z + 1 + (y - (z + 1)) = y by omega, cntB_succ, if_pos (ownB_iff.mpr hz)] at e2
  omega
variable {first : Nat}
theorem cntB_low (ok : ∀ l ∈ ls, LpOk l) (hl : ls[a]? = some l) (hT : (cols l n)[s]? = some T) {x : Nat} (h : x ≤ pre (tabsOf ls n) a) : cntB ls n a s x = 0 := by
  refine (cntB_no (Nat.zero_le x) fun z _ h2 o => ?_).trans rfl
  obtain ⟨t, _, rfl⟩ := (own_is ok hl hT z).mp o
  unfold numN at h2
  omega
/-- an own number between two turns' first numbers is that turn's -/
theorem own_turn (ok : ∀ l ∈ ls, LpOk l) (hl : ls[a]? = some l) (hT : (cols l n)[s]? = some T) {z t : Nat} (o : isOwn ls n a s z) (h1 : pre (tabsOf ls n) a + wb (cols l n) t ≤ z) (h2 : z < pre (tabsOf ls n) a + wb (cols l n) (t + 1)) : T.has (t : Int) = true ∧ z = numN (cols l n) (pre (tabsOf ls n) a) s t := by
  obtain ⟨t', ht, rfl⟩ := (own_is ok hl hT z).mp o
  have : t' = t := by
    rcases Nat.lt_trichotomy t' t with q | q | q
    · have := numN_lt (first := pre (tabsOf ls n) a) hT ht q
      omega
    · exact q
    · have := wb_mono (cols := cols l n) (show t + 1 ≤ t' by omega)
      unfold numN at h2
      omega
  subst this
  exact ⟨ht, rfl⟩
theorem cntB_turn (ok : ∀ l ∈ ls, LpOk l) (hl : ls[a]? = some l) (hT : (cols l n)[s]? = some T) : ∀ t : Nat, cntB ls n a s (pre (tabsOf ls n) a + wb (cols l n) t) = T.below (t : Int)
  | 0 => by
    rw [wb_zero, Nat.add_zero, cntB_low ok hl hT (Nat.le_refl _)]
    rfl
  | t + 1 => by
    have ih := cntB_turn ok hl hT t
    have e0 : ((t + 1 : Nat) : Int) = (t : Int) + 1 := rfl
    have w1 := wb_succ (cols := cols l n) (t := t)
    rw [e0, below_succ, ← ih]
    by_cases h : T.has (t : Int) = true
    · rw [if_pos h]
      refine cntB_one ((own_is ok hl hT _).mpr ⟨t, h, rfl⟩) ?_ (numN_lt hT h (Nat.lt_succ_self t)) fun z' a1 a2 o => (own_turn ok hl hT o a1 a2).2
      unfold numN
      omega
    · rw [if_neg h]
      exact cntB_no (by omega) fun z' a1 a2 o => h (own_turn ok hl hT o a1 a2).1
theorem cntB_at (ok : ∀ l ∈ ls, LpOk l) (hl : ls[a]? = some l) (hT : (cols l n)[s]? = some T) {t i p : Nat} (hd : (dn (cols l n) t)[i]? = some p) : cntB ls n a s (pre (tabsOf ls n) a + (wb (cols l n) t + i)) = T.below (t : Int) + if s < p ∧ T.has (t : Int) = true then 1 else 0 := by
  have hi := (List.getElem?_eq_some_iff.mp hd).1
  have w1 := wb_succ (cols := cols l n) (t := t)
  rw [← cntB_turn ok hl hT t]
  by_cases h : s < p ∧ T.has (t : Int) = true
  · rw [if_pos h]
    have g := num_ge (first := pre (tabsOf ls n) a) (t := t) hT h.2 hd
    rw [if_neg (show ¬ p ≤ s by omega)] at g
    refine cntB_one ((own_is ok hl hT _).mpr ⟨t, h.2, rfl⟩) ?_ (by omega) fun z' a1 a2 o => (own_turn ok hl hT o a1 (by omega)).2
    unfold numN
    omega
  · rw [if_neg h]
    refine cntB_no (by omega) fun z' a1 a2 o => ?_
    obtain ⟨h1, rfl⟩ := own_turn ok hl hT o a1 (by omega)
    have g := num_ge (first := pre (tabsOf ls n) a) (t := t) hT h1 hd
    by_cases q : p ≤ s
    · rw [if_pos q] at g
      have := g.mpr (Nat.le_refl _)
      omega
    · exact h ⟨by omega, h1⟩
theorem cntB_high (ok : ∀ l ∈ ls, LpOk l) (hl : ls[a]? = some l) (hT : (cols l n)[s]? = some T) {x : Nat} (h : pre (tabsOf ls n) (a + 1) ≤ x) : (cntB ls n a s x : Int) = (T.below (lpN l n) : Int) := by
  obtain ⟨N, hN⟩ : ∃ N : Nat, lpN l n = (N : Int) := ⟨(lpN l n).toNat, by have := lpN_0 l n; omega⟩
  have hcs : (tabsOf ls n)[a]? = some (cols l n) := by
    unfold tabsOf
    rw [List.getElem?_map, hl]
    rfl
  have top : wb (cols l n) N = allOf (cols l n) := wb_all (fun T hT => (cols_good T hT).lo) fun T hT => by have := cols_hi T hT; rw [hN] at this; exact this
  have e := pre_succ hcs
  have hi := cols_hi T (List.mem_of_getElem? hT)
  rw [hN] at hi ⊢
  rw [← cntB_turn ok hl hT N, cntB_no (show pre (tabsOf ls n) a + wb (cols l n) N ≤ x by omega) fun z a1 a2 o => ?_]
  obtain ⟨t, ht, rfl⟩ := (own_is ok hl hT z).mp o
  have h1 := (Tn.has_iff.mp ht).2.1
  have := numN_lt (first := pre (tabsOf ls n) a) hT ht (show t < N by rw [Int.toNat_natCast] at hi; omega)
  omega
end
end K35
set_option maxHeartbeats 4000000
namespace K35
open PySem PySem.Spec PyProof.Rows L2 Z
def spOwnB : Sp := fun vs H Q _ => ∃ (Pd : Addr → Prop) (r tw : Addr) (xs : List V) (ls : List LpM) (n : Int) (w : W3) (k a s : Nat) (l : LpM) (T : Tn), vs = [.ref r, .int n, .ref tw, .int (a : Int), .int (s : Int)] ∧ H r = some (.lst xs) ∧ DLs Pd H xs (ls.map lpR) ∧ ls.length ≤ 6 ∧ (∀ l ∈ ls, LpOk l) ∧ H tw = some (.tup [.int w.1, .int w.2.1, .int w.2.2]) ∧ (works ls n)[k]? = some w ∧
  ls[a]? = some l ∧ (cols l n)[s]? = some T ∧ ∀ H', Same H H' → Q (.int (cntB ls n a s k : Int)) H'
def spOwnN (K : PySem.W.Frag) : Sp := fun vs H Q _ => ∃ (Pd : Addr → Prop) (v : V) (r : Addr) (xs : List V) (ls : List LpM) (n num : Int) (a s : Nat) (l : LpM) (T : Tn), vs = [v, .ref r, .int n, .int num, .int (a : Int), .int (s : Int)] ∧ PrOb K H v ls ∧ H r = some (.lst xs) ∧ DLs Pd H xs (ls.map lpR) ∧ ls.length ≤ 6 ∧ (∀ l ∈ ls, LpOk l) ∧ 0 ≤ n ∧ n ≤ TOP ∧
  ls[a]? = some l ∧ (cols l n)[s]? = some T ∧ ∀ H', Same H H' → Q (.int (cntB ls n a s (min num.toNat (works ls n).length) : Int)) H'
def spIsOwn (K : PySem.W.Frag) : Sp := fun vs H Q _ => ∃ (Pd : Addr → Prop) (v : V) (r : Addr) (xs : List V) (ls : List LpM) (n : Int) (x a s : Nat) (l : LpM) (T : Tn), vs = [v, .ref r, .int n, .int (x : Int), .int (a : Int), .int (s : Int), .int (cntB ls n a s x : Int)] ∧ PrOb K H v ls ∧ H r = some (.lst xs) ∧ DLs Pd H xs (ls.map lpR) ∧ ls.length ≤ 6 ∧ (∀ l ∈ ls, LpOk l) ∧ 0 ≤ n ∧ n ≤ TOP ∧
  ls[a]? = some l ∧ (cols l n)[s]? = some T ∧ isOwn ls n a s x ∧ ∀ H', Same H H' → Q (.bl true) H'
section
variable {P : Program} {w : World} {K : PySem.W.Frag} {mg : Str → Option Value} {base : Heap}
theorem sc_law_own_before : FnScope ["_law_rows", "_law_n", "_law_work", "_law_at", "_law_k", "_law_turn", "_law_found"] ["_law_rows", "_law_n", "_law_work", "_law_at", "_law_k"] (defScope s_law_own_before) := ⟨rfl, rfl, rfl, by decide +kernel, rfl, by decide +kernel, by decide +kernel⟩
theorem ok_ownB {f : Addr} {fd : FuncData} (F : FnP K "_law_own_before" s_law_own_before f fd) (T : LwTx K mg) (dLTurnOf : Dn P w K mg base 3 "_law_turn_of" ["_law_rows", "_law_n", "_law_work"] spLTurnOf) (dOfSt : Dn P w K mg base 4 "_law_of_statement" ["_law_loop_here", "_law_statement_here", "_law_n"] spOfSt)
    (dAhead : Dn P w K mg base 4 "_law_ahead" ["_law_loop_here", "_law_statement_here", "_law_n", "_law_turn"] spAhead) (dLDone : Dn P w K mg base 2 "_law_done" ["_law_statement_here", "_law_i", "_law_n"] spLDone) :
    FnOk P w K mg base CX0 5 f fd ["_law_rows", "_law_n", "_law_work", "_law_at", "_law_k"] spOwnB := by
  refine F.ok sc_law_own_before (fun vs H Q E h => ?_) (fun cdv A outer s H vs Q E hr h => ?_)
  · obtain ⟨Pd, r, tw, xs, ls, n, w, k, a, st, l, W, rfl, _⟩ := h
    rfl
  · obtain ⟨Pd, r, tw, xs, ls, n, w, k, a, st, l, W, rfl, hr0, ds, l6, ok, htw, hk, hl, hT, q⟩ := h
    refine ⟨_, PSs.nox (pss_cons (ps_if (pt_cmpR op_ne (pe_ix (ix_tupK (K := K) rfl) (pv 2) pe_int (fun _ _ => rfl)) (pv 3) (nomark _)) (pss_one (ps_ret (pe_ifExp (pt_cmpR op_gt (pe_ix (ix_tupK (K := K) rfl) (pv 2) pe_int (fun _ _ => rfl)) (pv 3) (nomark _)) (pe_dn dOfSt hr (pa_cons (pe_ix ix_list (pv 0) (pv 3) (fun _ _ => rfl)) (pa_cons (pe_ix ix_list (pe_ix (ix_tupK (K := K) rfl) (pe_ix ix_list (pv 0) (pv 3) (fun _ _ => rfl)) pe_int (fun _ _ => rfl)) (pv 4) (fun _ _ => rfl)) (pa_cons (pv 1) pa_nil)))) pe_int))) pss_nil)
      (pss_cons (ps_set (i := 5) sc_law_own_before.nd rfl (Or.inl rfl) (pe_dn dLTurnOf hr (pa_cons (pv 0) (pa_cons (pv 1) (pa_cons (pv 2) pa_nil)))))
      (pss_cons (ps_set (i := 6) sc_law_own_before.nd rfl (Or.inl rfl) (pe_dn dAhead hr (pa_cons (pe_ix ix_list (pv 0) (pv 3) (fun _ _ => rfl)) (pa_cons (pe_ix ix_list (pe_ix (ix_tupK (K := K) rfl) (pe_ix ix_list (pv 0) (pv 3) (fun _ _ => rfl)) pe_int (fun _ _ => rfl)) (pv 4) (fun _ _ => rfl)) (pa_cons (pv 1) (pa_cons (pv 5) pa_nil))))))
      (pss_one (ps_ret (pe_op op_add (pv 6) (pe_ifExp (PW.pt (pw_and (pt_cmpR op_lt (pv 4) (pe_ix (ix_tupK (K := K) rfl) (pv 2) pe_int (fun _ _ => rfl)) (nomark _)) (pw_and1 (pt_val (pe_dn dLDone hr (pa_cons (pe_ix ix_list (pe_ix (ix_tupK (K := K) rfl) (pe_ix ix_list (pv 0) (pv 3) (fun _ _ => rfl)) pe_int (fun _ _ => rfl)) (pv 4) (fun _ _ => rfl)) (pa_cons (pe_ix (ix_tupK (K := K) rfl) (pv 2) pe_int (fun _ _ => rfl)) (pa_cons (pv 1) pa_nil)))))))) pe_int pe_int))))))), ?_⟩
    obtain ⟨a', l', t, i, s', hl', ht, hdn, ek, rfl⟩ := works_pos ok hk
    have okl := ok l (List.mem_of_getElem? hl)
    obtain ⟨n3, okS⟩ := lpOk_st okl
    have hsm : ∃ sm, l.sts[st]? = some sm ∧ W = dtn l n sm.gds := by
      unfold cols at hT
      rw [List.getElem?_map] at hT
      obtain ⟨sm, h1, h2⟩ := Option.map_eq_some_iff.mp hT
      exact ⟨sm, h1, h2.symm⟩
    obtain ⟨sm, hs, rfl⟩ := hsm
    have oks := okS sm (List.mem_of_getElem? hs)
    obtain ⟨u, hu, du⟩ := DLs.get a _ ds (by rw [List.getElem?_map, hl]; rfl)
    have du0 := du
    obtain ⟨tl, q1, q2, ts, ys, rfl, htl, _, _, hts, dst⟩ := dl_lp du
    obtain ⟨us, hus, dus⟩ := DLs.get st _ dst (by rw [List.getElem?_map, hs]; rfl)
    have hcs' : (tabsOf ls n)[a']? = some (cols l' n) := by
      unfold tabsOf
      rw [List.getElem?_map, hl']
      rfl
    dsimp only at htw
    have bef : ∀ {d : Nat}, a' + d + 1 ≤ a → k ≤ pre (tabsOf ls n) a := fun {d} le => by
      have hi := (List.getElem?_eq_some_iff.mp hdn).1
      have h3 := wb_succ (cols := cols l' n) (t := t)
      have h4 := wb_mono (cols := cols l' n) (show t + 1 ≤ (lpN l' n).toNat by omega)
      have h5 : wb (cols l' n) (lpN l' n).toNat = allOf (cols l' n) := wb_all (fun T hT => (cols_good T hT).lo) cols_hi
      have h6 := pre_succ hcs'
      have h7 := pre_mono (tabs := tabsOf ls n) (show a' + 1 ≤ a by omega)
      omega
    refine ⟨_, rfl, tw, _, _, _, rfl, rfl, SqT.of htw, at0, _, rfl, rfl, _, rfl, ?_⟩
    by_cases e : a' = a
    · subst e
      rw [hl] at hl'
      cases hl'
      refine if_no (by rw [decide_eq_true rfl]; rfl) ?_
      refine un_next ?_
      try dsimp only
      have S0 := S_ok okl
      have tN : (t : Int) < lpN l n := by omega
      have eu : (ctr l n (t : Int) - lpL l n).fdiv l.S = (if l.dn = true then lpN l n - 1 - (t : Int) else (t : Int)) := by
        unfold ctr
        rw [show ∀ x y : Int, x + y - x = y by intro x y; omega]
        exact Int.mul_fdiv_cancel _ (by omega)
      refine ⟨_, rfl, _, rfl, _, rfl, Pd, r, tw, xs, ls, n, _, k, rfl, hr0, ds, ok, htw, hk, fun a2 l2 H1 ea hl2 s1 => ?_⟩
      have ea : (a' : Int) = (a2 : Int) := ea
      obtain rfl : a' = a2 := by omega
      rw [hl] at hl2
      cases hl2
      try dsimp only
      rw [eu]
      obtain ⟨U, hU⟩ : ∃ U : Int, U = if l.dn = true then lpN l n - 1 - (t : Int) else (t : Int) := ⟨_, rfl⟩
      rw [← hU]
      refine normG (σ' := [some (.ref r), some (.int n), some (.ref tw), some (.int (a' : Int)), some (.int (st : Int)), some (.int U), none]) rfl ?_
      try dsimp only
      have htw1 := s1 _ _ htw
      have hr1 := s1 _ _ hr0
      have htl1 := s1 _ _ htl
      have hts1 := s1 _ _ hts
      refine ⟨_, rfl, _, rfl, r, _, _, _, rfl, rfl, SqL.of hr1, atI_nat hu, _, rfl, _, rfl, r, _, _, _, rfl, rfl, SqL.of hr1, atI_nat hu, tl, _, _, _, rfl, rfl, SqT.of htl1, at4, _, rfl, ts, _, _, _, rfl, rfl, SqL.of hts1, atI_nat hus, _, rfl, _, rfl, Pd, _, us, l, sm, n, t, by rw [hU]; rfl, du0.to (.of s1), dus.to (.of s1), okl, oks, tN, fun H2 s2 => ?_⟩
      refine normG (σ' := [some (.ref r), some (.int n), some (.ref tw), some (.int (a' : Int)), some (.int (st : Int)), some (.int U), some (.int ((dtn l n sm.gds).below (t : Int) : Int))]) rfl ?_
      try dsimp only
      have s12 := s1.trans s2
      have at_ := cntB_at ok hl hT hdn
      rw [← ek] at at_
      have hh : (dtn l n sm.gds).has (t : Int) = stDone sm (ctr l n (t : Int)) n := by
        rw [dtn_has (stOk_gds oks), decide_eq_true (show (0 : Int) ≤ (t : Int) by omega), decide_eq_true tN]
        rfl
      refine ⟨_, rfl, _, rfl, _, rfl, tw, _, _, _, rfl, rfl, SqT.of (s12 _ _ htw), at2, _, _, rfl, rfl, _, rfl, ?_⟩
      by_cases z : (st : Int) < (s' : Int)
      · refine if_yes (decide_eq_true z) ?_
        refine ⟨_, rfl, _, rfl, r, _, _, _, rfl, rfl, SqL.of (s12 _ _ hr0), atI_nat hu, tl, _, _, _, rfl, rfl, SqT.of (s12 _ _ htl), at4, _, rfl, ts, _, _, _, rfl, rfl, SqL.of (s12 _ _ hts), atI_nat hus, _, rfl, tw, _, _, _, rfl, rfl, SqT.of (s12 _ _ htw), at1, _, rfl, Pd, us, sm, _, n, rfl, dus.to (.of s12), oks, fun H3 s3 => ⟨_, rfl, ?_⟩⟩
        by_cases y : stDone sm (ctr l n (t : Int)) n = true
        · refine if_yes y ⟨_, _, rfl, rfl, ?_⟩
          rw [if_pos ⟨by omega, hh.trans y⟩] at at_
          have := q H3 (s12.trans s3)
          rw [at_] at this
          exact this
        · refine if_no (Bool.eq_false_iff.mpr y) ⟨_, _, rfl, rfl, ?_⟩
          rw [if_neg fun w => y (hh ▸ w.2)] at at_
          have := q H3 (s12.trans s3)
          rw [at_] at this
          exact this
      · refine if_no (decide_eq_false z) ?_
        refine if_no rfl ⟨_, _, rfl, rfl, ?_⟩
        rw [if_neg fun w => z (by omega)] at at_
        have := q H2 s12
        rw [at_] at this
        exact this
    · refine if_yes (by rw [decide_eq_false fun z => e (by have := V.int.inj z; omega)]; rfl) ?_
      refine ⟨_, rfl, tw, _, _, _, rfl, rfl, SqT.of htw, at0, _, rfl, _, _, rfl, rfl, _, rfl, ite2 (fun z => ?_) (fun z => ?_)⟩
      · have z : (a : Int) < (a' : Int) := of_decide_eq_true z
        refine ⟨_, rfl, _, rfl, r, _, _, _, rfl, rfl, SqL.of hr0, atI_nat hu, _, rfl, _, rfl, r, _, _, _, rfl, rfl, SqL.of hr0, atI_nat hu, tl, _, _, _, rfl, rfl, SqT.of htl, at4, _, rfl, ts, _, _, _, rfl, rfl, SqL.of hts, atI_nat hus, _, rfl, Pd, _, us, l, sm, n, rfl, du0, dus, okl, oks, fun H1 s1 => ?_⟩
        have hh := cntB_high ok hl hT (x := k) (by
          have := pre_mono (tabs := tabsOf ls n) (show a + 1 ≤ a' by omega)
          omega)
        rw [← hh]
        exact q H1 s1
      · have z : ¬ (a : Int) < (a' : Int) := fun y => z (decide_eq_true y)
        have lo := cntB_low ok hl hT (x := k) (bef (d := 0) (by omega))
        rw [lo] at q
        exact q H (Same.refl H)
theorem sc_law_own_before_number : FnScope ["_law_program_here", "_law_rows", "_law_n", "_law_number_here", "_law_at", "_law_k", "_law_work"] ["_law_program_here", "_law_rows", "_law_n", "_law_number_here", "_law_at", "_law_k"] (defScope s_law_own_before_number) := ⟨rfl, rfl, rfl, by decide +kernel, rfl, by decide +kernel, by decide +kernel⟩
theorem ok_ownN {f : Addr} {fd : FuncData} (F : FnP K "_law_own_before_number" s_law_own_before_number f fd) (T : LwTx K mg) (dLMany : Dn P w K mg base 4 "_law_many" ["_law_rows", "_law_n"] spLMany) (dOfSt : Dn P w K mg base 4 "_law_of_statement" ["_law_loop_here", "_law_statement_here", "_law_n"] spOfSt)
    (dWAt : Dx P w K mg base 8 "work_at" ["program", "n", "number"] (spWAt K)) (dOwnB : Dn P w K mg base 5 "_law_own_before" ["_law_rows", "_law_n", "_law_work", "_law_at", "_law_k"] spOwnB) (dLNumber : Dn P w K mg base 5 "_law_number" ["_law_rows", "_law_n", "_law_work"] spLNumber) :
    FnOk P w K mg base CX0 9 f fd ["_law_program_here", "_law_rows", "_law_n", "_law_number_here", "_law_at", "_law_k"] (spOwnN K) := by
  refine F.ok sc_law_own_before_number (fun vs H Q E h => ?_) (fun cdv A outer s H vs Q E hr h => ?_)
  · obtain ⟨Pd, v, r, xs, ls, n, num, a, st, l, W, rfl, _⟩ := h
    rfl
  · obtain ⟨Pd, v, r, xs, ls, n, num, a, st, l, W, rfl, hP, hr0, ds, l6, ok, n0, n1, hl, hT, q⟩ := h
    refine ⟨_, PSs.nox (pss_cons (ps_if (pt_cmpR op_le (pv 3) pe_int (nomark _)) (pss_one (ps_ret pe_int)) pss_nil)
      (pss_cons (ps_if (pt_cmpR op_ge (pv 3) (pe_dn dLMany hr (pa_cons (pv 1) (pa_cons (pv 2) pa_nil))) (nomark _)) (pss_one (ps_ret (pe_dn dOfSt hr (pa_cons (pe_ix ix_list (pv 1) (pv 4) (fun _ _ => rfl)) (pa_cons (pe_ix ix_list (pe_ix (ix_tupK (K := K) rfl) (pe_ix ix_list (pv 1) (pv 4) (fun _ _ => rfl)) pe_int (fun _ _ => rfl)) (pv 5) (fun _ _ => rfl)) (pa_cons (pv 2) pa_nil)))))) pss_nil)
      (pss_cons (ps_set (i := 6) sc_law_own_before_number.nd rfl (Or.inl rfl) (pe_dx (K := K) dWAt rfl hr at_E0 (pa_cons (pv 0) (pa_cons (pv 2) (pa_cons (pv 3) pa_nil)))))
      (pss_one (ps_ret (pe_ifExp (pt_cmpR op_eq (pe_dn dLNumber hr (pa_cons (pv 1) (pa_cons (pv 2) (pa_cons (pv 6) pa_nil)))) (pv 3) (nomark _)) (pe_dn dOwnB hr (pa_cons (pv 1) (pa_cons (pv 2) (pa_cons (pv 6) (pa_cons (pv 4) (pa_cons (pv 5) pa_nil)))))) (pe_un un_neg pe_int))))))), ?_⟩
    have okS : ∀ l ∈ ls, ∀ s ∈ l.sts, StOk s := fun l hl => (lpOk_st (ok l hl)).2
    have okl := ok l (List.mem_of_getElem? hl)
    have jl := (List.getElem?_eq_some_iff.mp hl).1
    have hsm : ∃ sm, l.sts[st]? = some sm ∧ W = dtn l n sm.gds := by
      unfold cols at hT
      rw [List.getElem?_map] at hT
      obtain ⟨sm, h1, h2⟩ := Option.map_eq_some_iff.mp hT
      exact ⟨sm, h1, h2.symm⟩
    obtain ⟨sm, hs, rfl⟩ := hsm
    have oks := okS l (List.mem_of_getElem? hl) sm (List.mem_of_getElem? hs)
    refine ⟨_, rfl, _, _, rfl, rfl, _, rfl, ite2 (fun z => ?_) (fun z => ?_)⟩
    · have z := of_decide_eq_true z
      rw [show min num.toNat (works ls n).length = 0 by omega] at q
      exact q H (Same.refl H)
    have z : ¬ num ≤ 0 := fun y => z (decide_eq_true y)
    refine un_next ?_
    try dsimp only
    refine ⟨_, rfl, _, rfl, _, rfl, Pd, r, xs, ls, n, rfl, hr0, ds, l6, ok, fun H1 s1 => ⟨_, _, rfl, rfl, _, rfl, ite2 (fun y => ?_) (fun y => ?_)⟩⟩
    · have y := of_decide_eq_true y
      rw [show min num.toNat (works ls n).length = (works ls n).length by omega, cntB_high ok hl hT (x := (works ls n).length) (by
        rw [works_len okS]
        exact pre_mono (by omega))] at q
      obtain ⟨u, hu, du⟩ := DLs.get a _ (ds.to (.of s1)) (by rw [List.getElem?_map, hl]; rfl)
      have du0 := du
      obtain ⟨tl, q1, q2, ts, ys, rfl, htl, _, _, hts, dst⟩ := dl_lp du
      obtain ⟨us, hus, dus⟩ := DLs.get st _ dst (by rw [List.getElem?_map, hs]; rfl)
      have hr1 := s1 _ _ hr0
      exact ⟨_, rfl, _, rfl, r, _, _, _, rfl, rfl, SqL.of hr1, atI_nat hu, _, rfl, _, rfl, r, _, _, _, rfl, rfl, SqL.of hr1, atI_nat hu, tl, _, _, _, rfl, rfl, SqT.of htl, at4, _, rfl, ts, _, _, _, rfl, rfl, SqL.of hts, atI_nat hus, _, rfl, Pd, _, us, l, sm, n, rfl, du0, dus, okl, oks, fun H2 s2 => q H2 (s1.trans s2)⟩
    have y : ¬ ((works ls n).length : Int) ≤ num := fun w => y (decide_eq_true w)
    refine un_next ?_
    try dsimp only
    obtain ⟨k, rfl⟩ : ∃ k : Nat, num = (k : Int) := ⟨num.toNat, by omega⟩
    rw [Int.toNat_natCast, Nat.min_eq_left (by omega)] at q
    refine ⟨_, rfl, _, rfl, _, rfl, v, ls, .int n, (k : Int), rfl, hP.same s1, l6, ok, sz_ok n0 n1 ⟨fun nm => absurd (show 0 ≤ (k : Int) ∧ (k : Int) < ((works ls n).length : Int) by omega) nm, fun _ w1 hw1 tw H2 s2 htw => ?_⟩⟩
    rw [Int.toNat_natCast] at hw1
    refine normG (σ' := [some v, some (.ref r), some (.int n), some (.int (k : Int)), some (.int (a : Int)), some (.int (st : Int)), some (.ref tw)]) rfl ?_
    try dsimp only
    have s12 := s1.trans s2
    refine ⟨_, rfl, _, rfl, _, rfl, Pd, r, tw, xs, ls, n, w1, k, rfl, s12 _ _ hr0, ds.to (.of s12), l6, ok, htw, hw1, fun H3 s3 => ⟨_, rfl, rfl, _, rfl, if_yes (decide_eq_true rfl) ?_⟩⟩
    have s13 := s12.trans s3
    exact ⟨_, rfl, _, rfl, _, rfl, _, rfl, _, rfl, Pd, r, tw, xs, ls, n, w1, k, a, st, l, _, rfl, s13 _ _ hr0, ds.to (.of s13), l6, ok, s3 _ _ htw, hw1, hl, hT, fun H4 s4 => q H4 (s13.trans s4)⟩
theorem sc_law_is_own : FnScope ["_law_program_here", "_law_rows", "_law_n", "_law_told", "_law_at", "_law_k", "_law_before", "_law_work"] ["_law_program_here", "_law_rows", "_law_n", "_law_told", "_law_at", "_law_k", "_law_before"] (defScope s_law_is_own) := ⟨rfl, rfl, rfl, by decide +kernel, rfl, by decide +kernel, by decide +kernel⟩
theorem ok_isOwn {f : Addr} {fd : FuncData} (F : FnP K "_law_is_own" s_law_is_own f fd) (T : LwTx K mg) (dIsNum : Dn P w K mg base 1 "_law_is_number" ["_law_value"] spIsNum) (dLMany : Dn P w K mg base 4 "_law_many" ["_law_rows", "_law_n"] spLMany)
    (dWAt : Dx P w K mg base 8 "work_at" ["program", "n", "number"] (spWAt K)) (dOwnB : Dn P w K mg base 5 "_law_own_before" ["_law_rows", "_law_n", "_law_work", "_law_at", "_law_k"] spOwnB) (dLNumber : Dn P w K mg base 5 "_law_number" ["_law_rows", "_law_n", "_law_work"] spLNumber) :
    FnOk P w K mg base CX0 9 f fd ["_law_program_here", "_law_rows", "_law_n", "_law_told", "_law_at", "_law_k", "_law_before"] (spIsOwn K) := by
  refine F.ok sc_law_is_own (fun vs H Q E h => ?_) (fun cdv A outer s H vs Q E hr h => ?_)
  · obtain ⟨Pd, v, r, xs, ls, n, x, a, st, l, W, rfl, _⟩ := h
    rfl
  · obtain ⟨Pd, v, r, xs, ls, n, x, a, st, l, W, rfl, hP, hr0, ds, l6, ok, n0, n1, hl, hT, ho, q⟩ := h
    refine ⟨_, PSs.nox (pss_cons (ps_if (PW.pt (pw_or (pt_not (pt_val (pe_dn dIsNum hr (pa_cons (pv 3) pa_nil)))) (pw_or1 (pt_not (pt_chain op_le op_lt pe_int (pv 3) (pe_dn dLMany hr (pa_cons (pv 1) (pa_cons (pv 2) pa_nil)))))))) (pss_one (ps_ret pe_bl)) pss_nil)
      (pss_cons (ps_set (i := 7) sc_law_is_own.nd rfl (Or.inl rfl) (pe_dx (K := K) dWAt rfl hr at_E0 (pa_cons (pv 0) (pa_cons (pv 2) (pa_cons (pv 3) pa_nil)))))
      (pss_cons (ps_if (PW.pt (pw_or (pt_cmpR op_ne (pe_dn dLNumber hr (pa_cons (pv 1) (pa_cons (pv 2) (pa_cons (pv 7) pa_nil)))) (pv 3) (nomark _)) (pw_or (pt_cmpR op_ne (pe_ix (ix_tupK (K := K) rfl) (pv 7) pe_int (fun _ _ => rfl)) (pv 4) (nomark _)) (pw_or1 (pt_cmpR op_ne (pe_ix (ix_tupK (K := K) rfl) (pv 7) pe_int (fun _ _ => rfl)) (pv 5) (nomark _)))))) (pss_one (ps_ret pe_bl)) pss_nil)
      (pss_one (ps_ret (pe_cmpR op_eq (pe_dn dOwnB hr (pa_cons (pv 1) (pa_cons (pv 2) (pa_cons (pv 7) (pa_cons (pv 4) (pa_cons (pv 5) pa_nil)))))) (pv 6) (nomark _))))))), ?_⟩
    have okS : ∀ l ∈ ls, ∀ s ∈ l.sts, StOk s := fun l hl => (lpOk_st (ok l hl)).2
    have okl := ok l (List.mem_of_getElem? hl)
    have jl := (List.getElem?_eq_some_iff.mp hl).1
    obtain ⟨c, hk⟩ := ho
    have xl := (List.getElem?_eq_some_iff.mp hk).1
    refine ⟨_, rfl, _, rfl, _, rfl, if_no rfl ?_⟩
    refine ⟨_, rfl, _, _, rfl, rfl, _, rfl, if_yes (decide_eq_true (show (0 : Int) ≤ (x : Int) by omega)) ?_⟩
    refine ⟨_, rfl, _, rfl, Pd, r, xs, ls, n, rfl, hr0, ds, l6, ok, fun H1 s1 => ⟨_, _, rfl, rfl, _, rfl, if_no (by rw [decide_eq_true (show (x : Int) < ((works ls n).length : Int) by omega)]; rfl) ?_⟩⟩
    refine un_next ?_
    try dsimp only
    refine ⟨_, rfl, _, rfl, _, rfl, v, ls, .int n, (x : Int), rfl, hP.same s1, l6, ok, sz_ok n0 n1 ⟨fun nm => absurd (show 0 ≤ (x : Int) ∧ (x : Int) < ((works ls n).length : Int) by omega) nm, fun _ w1 hw1 tw H2 s2 htw => ?_⟩⟩
    rw [Int.toNat_natCast, hk] at hw1
    cases hw1
    refine normG (σ' := [some v, some (.ref r), some (.int n), some (.int (x : Int)), some (.int (a : Int)), some (.int (st : Int)), some (.int (cntB ls n a st x : Int)), some (.ref tw)]) rfl ?_
    try dsimp only
    have s12 := s1.trans s2
    refine ⟨_, rfl, _, rfl, _, rfl, Pd, r, tw, xs, ls, n, _, x, rfl, s12 _ _ hr0, ds.to (.of s12), l6, ok, htw, hk, fun H3 s3 => ⟨_, rfl, rfl, _, rfl, if_no (by rw [decide_eq_true rfl]; rfl) ?_⟩⟩
    have htw3 := s3 _ _ htw
    refine ⟨_, rfl, tw, _, _, _, rfl, rfl, SqT.of htw3, at0, _, rfl, rfl, _, rfl, if_no (by rw [decide_eq_true rfl]; rfl) ?_⟩
    refine ⟨_, rfl, tw, _, _, _, rfl, rfl, SqT.of htw3, at2, _, rfl, rfl, _, rfl, if_no (by rw [decide_eq_true rfl]; rfl) ?_⟩
    refine un_next ?_
    try dsimp only
    have s13 := s12.trans s3
    refine ⟨_, rfl, _, rfl, _, rfl, _, rfl, _, rfl, Pd, r, tw, xs, ls, n, _, x, a, st, l, W, rfl, s13 _ _ hr0, ds.to (.of s13), l6, ok, htw3, hk, hl, hT, fun H4 s4 => ⟨_, rfl, rfl, ?_⟩⟩
    rw [decide_eq_true rfl]
    exact q H4 (s13.trans s4)
end
end K35
set_option maxHeartbeats 4000000
namespace K35
open PySem PySem.Spec PyProof.Rows L2 Z
section
variable {ls : List LpM} {n : Int} {a s : Nat} {num : Int}
theorem bl_same {p q : Prop} [Decidable p] [Decidable q] (h : p ↔ q) : (!decide (V.bl (decide p) = V.bl (decide q))) = false := by
  rw [decide_eq_decide.mpr h, decide_eq_true rfl]
  rfl
theorem own_len {x : Nat} (h : isOwn ls n a s x) : x < (works ls n).length := by
  obtain ⟨c, e⟩ := h
  exact (List.getElem?_eq_some_iff.mp e).1
theorem no_later (h : ∀ x : Nat, isOwn ls n a s x → num ≤ (x : Int) → False) : cntB ls n a s (works ls n).length = cntB ls n a s (min num.toNat (works ls n).length) :=
  cntB_no (Nat.min_le_right _ _) fun z h1 h2 o => h z o (by omega)
theorem some_later {x : Nat} (o : isOwn ls n a s x) (le : num ≤ (x : Int)) (least : ∀ y : Nat, isOwn ls n a s y → num ≤ (y : Int) → x ≤ y) : cntB ls n a s (min num.toNat (works ls n).length) < cntB ls n a s (works ls n).length ∧ cntB ls n a s x = cntB ls n a s (min num.toNat (works ls n).length) := by
  have xl := own_len o
  refine ⟨cntB_lt o (by omega) xl, cntB_no (by omega) fun z h1 h2 o2 => ?_⟩
  have := least z o2 (by omega)
  omega
theorem no_earlier (h : ∀ x : Nat, isOwn ls n a s x → (x : Int) < num → False) : cntB ls n a s (min num.toNat (works ls n).length) = 0 :=
  (cntB_no (Nat.zero_le _) fun z h1 h2 o => h z o (by omega)).trans rfl
theorem some_earlier {x : Nat} (o : isOwn ls n a s x) (lt : (x : Int) < num) (most : ∀ y : Nat, isOwn ls n a s y → (y : Int) < num → y ≤ x) : cntB ls n a s (min num.toNat (works ls n).length) = cntB ls n a s x + 1 := by
  have xl := own_len o
  refine cntB_one o (Nat.le_refl x) (by omega) fun z h1 h2 o2 => ?_
  have := most z o2 (by omega)
  omega
end
def spSmallR (K : PySem.W.Frag) : Sp := fun vs H Q _ => ∃ (Pd : Addr → Prop) (p pc : Addr) (v : V) (r : Addr) (xs : List V) (ls : List LpM) (t : Nat), vs = [.ref p, v, .ref r] ∧ PrOb K H v ls ∧ H r = some (.lst xs) ∧ DLs Pd H xs (ls.map lpR) ∧ ls.length ≤ 6 ∧ (∀ l ∈ ls, LpOk l) ∧ 1 ≤ ls.length ∧ (∀ l ∈ ls, 1 ≤ l.sts.length) ∧ t < 950000000 ∧ PenC H p pc t ∧
  ∀ H', PenC H' p pc (t + 20) → Keep p H H' → Q (.bl true) H'
def spFarR (K : PySem.W.Frag) : Sp := fun vs H Q _ => ∃ (Pd : Addr → Prop) (p pc : Addr) (v : V) (r : Addr) (xs : List V) (ls : List LpM) (t : Nat), vs = [.ref p, v, .ref r] ∧ PrOb K H v ls ∧ H r = some (.lst xs) ∧ DLs Pd H xs (ls.map lpR) ∧ ls.length ≤ 6 ∧ (∀ l ∈ ls, LpOk l) ∧ 1 ≤ ls.length ∧ (∀ l ∈ ls, 1 ≤ l.sts.length) ∧ t < 950000000 ∧ PenC H p pc t ∧
  ∀ H', PenC H' p pc (t + 50) → Keep p H H' → Q (.bl true) H'
section
variable {P : Program} {w : World} {K : PySem.W.Frag} {mg : Str → Option Value} {base : Heap}
theorem sc_law_far_right : FnScope ["_law_pen", "_law_program_here", "_law_rows", "_law_n", "_law_at", "_law_k", "_law_many_here", "_law_number_here", "_law_own", "_law_before", "_law_later", "_law_earlier"] ["_law_pen", "_law_program_here", "_law_rows"] (defScope s_law_far_right) := ⟨rfl, rfl, rfl, by decide +kernel, rfl, by decide +kernel, by decide +kernel⟩
theorem ok_farR {f : Addr} {fd : FuncData} (F : FnP K "_law_far_right" s_law_far_right f fd) (T : LwTx K mg) (dDraw : Dn P w K mg base 1 "_law_draw" ["_law_pen", "_law_many_here"] spDraw) (dFar : Dn P w K mg base 2 "_law_far" ["_law_pen"] spFar) (dLMany : Dn P w K mg base 4 "_law_many" ["_law_rows", "_law_n"] spLMany) (dOfSt : Dn P w K mg base 4 "_law_of_statement" ["_law_loop_here", "_law_statement_here", "_law_n"] spOfSt)
    (dOwnN : Dn P w K mg base 9 "_law_own_before_number" ["_law_program_here", "_law_rows", "_law_n", "_law_number_here", "_law_at", "_law_k"] (spOwnN K)) (dIsOwn : Dn P w K mg base 9 "_law_is_own" ["_law_program_here", "_law_rows", "_law_n", "_law_told", "_law_at", "_law_k", "_law_before"] (spIsOwn K))
    (dNW : Dx P w K mg base 8 "next_work" ["program", "n", "number", "loop", "statement"] (spNW K)) (dLW : Dx P w K mg base 8 "last_work" ["program", "n", "number", "loop", "statement"] (spLW K)) :
    FnOk P w K mg base CX0 10 f fd ["_law_pen", "_law_program_here", "_law_rows"] (spFarR K) := by
  refine F.ok sc_law_far_right (fun vs H Q E h => ?_) (fun cdv A outer s H vs Q E hr h => ?_)
  · obtain ⟨Pd, p, pc, v, r, xs, ls, t, rfl, _⟩ := h
    rfl
  · obtain ⟨Pd, p, pc, v, r, xs, ls, t, rfl, hP, hr0, ds, l6, ok, l1, s1, ht, hp, k⟩ := h
    refine ⟨_, PSs.nox (pss_cons (ps_par (i := 3) (j := 4) (by rfl) sc_law_far_right.nd rfl rfl (by decide) rfl rfl (pa_cons (pe_dn dFar hr (pa_cons (pv 0) pa_nil)) (pa_cons (pe_dn dDraw hr (pa_cons (pv 0) (pa_cons (pe_callB (call_len_seqK (K := K) rfl) (by rfl) T.len PySem.boot_len (pa_cons (pv 2) pa_nil)) pa_nil))) pa_nil)) (by rfl))
      (pss_cons (ps_par (i := 5) (j := 6) (by rfl) sc_law_far_right.nd rfl rfl (by decide) rfl rfl (pa_cons (pe_dn dDraw hr (pa_cons (pv 0) (pa_cons (pe_callB (call_len_seqK (K := K) rfl) (by rfl) T.len PySem.boot_len (pa_cons (pe_ix (ix_tupK (K := K) rfl) (pe_ix ix_list (pv 2) (pv 4) (fun _ _ => rfl)) pe_int (fun _ _ => rfl)) pa_nil)) pa_nil))) (pa_cons (pe_dn dLMany hr (pa_cons (pv 2) (pa_cons (pv 3) pa_nil))) pa_nil)) (by rfl))
      (pss_cons (ps_set (i := 7) sc_law_far_right.nd rfl (Or.inl rfl) (pe_op op_sub (pe_op op_modN (pe_callTy call_int1 (by rfl) T.int (by decide +kernel) (pa_cons (pe_op op_add (pe_op op_mul (pe_dn dFar hr (pa_cons (pv 0) pa_nil)) pe_int) (pe_dn dFar hr (pa_cons (pv 0) pa_nil))) pa_nil)) (pe_op op_add (pv 6) pe_int)) pe_int))
      (pss_cons (ps_if (pt_cmpR op_eq (pe_dn dDraw hr (pa_cons (pv 0) (pa_cons pe_int pa_nil))) pe_int (nomark _)) (pss_one (ps_set (i := 7) sc_law_far_right.nd rfl (Or.inl rfl) (pe_op op_sub (pe_op op_add (pe_dn dLMany hr (pa_cons (pe_slice sl_list (pv 2) po_none (po_some (pe_op op_add (pv 4) (pe_dn dDraw hr (pa_cons (pv 0) (pa_cons pe_int pa_nil)))))) (pa_cons (pv 3) pa_nil))) (pe_dn dDraw hr (pa_cons (pv 0) (pa_cons pe_int pa_nil)))) pe_int))) pss_nil)
      (pss_cons (ps_set (i := 8) sc_law_far_right.nd rfl (Or.inl rfl) (pe_dn dOfSt hr (pa_cons (pe_ix ix_list (pv 2) (pv 4) (fun _ _ => rfl)) (pa_cons (pe_ix ix_list (pe_ix (ix_tupK (K := K) rfl) (pe_ix ix_list (pv 2) (pv 4) (fun _ _ => rfl)) pe_int (fun _ _ => rfl)) (pv 5) (fun _ _ => rfl)) (pa_cons (pv 3) pa_nil)))))
      (pss_cons (ps_set (i := 9) sc_law_far_right.nd rfl (Or.inl rfl) (pe_dn dOwnN hr (pa_cons (pv 1) (pa_cons (pv 2) (pa_cons (pv 3) (pa_cons (pv 7) (pa_cons (pv 4) (pa_cons (pv 5) pa_nil))))))))
      (pss_cons (ps_par (i := 10) (j := 11) (by rfl) sc_law_far_right.nd rfl rfl (by decide) rfl rfl (pa_cons (pe_dx (K := K) dNW rfl hr at_E0 (pa_cons (pv 1) (pa_cons (pv 3) (pa_cons (pv 7) (pa_cons (pv 4) (pa_cons (pv 5) pa_nil)))))) (pa_cons (pe_dx (K := K) dLW rfl hr at_E0 (pa_cons (pv 1) (pa_cons (pv 3) (pa_cons (pv 7) (pa_cons (pv 4) (pa_cons (pv 5) pa_nil)))))) pa_nil)) (by rfl))
      (pss_cons (ps_if (PW.pt (pw_or (pt_cmpR op_lt (pv 9) pe_int (nomark _)) (pw_or (pt_cmpR op_ne (pe_cmpR op_isN (pv 10) pe_non (nomark _)) (pe_cmpR op_eq (pv 9) (pv 8) (nomark _)) (nomark _)) (pw_or1 (pt_cmpR op_ne (pe_cmpR op_isN (pv 11) pe_non (nomark _)) (pe_cmpR op_eq (pv 9) pe_int (nomark _)) (nomark _)))))) (pss_one (ps_ret pe_bl)) pss_nil)
      (pss_cons (ps_if (PW.pt (pw_and (pt_cmpR op_notN (pv 10) pe_non (nomark _)) (pw_and1 (pt_not (pt_val (pe_dn dIsOwn hr (pa_cons (pv 1) (pa_cons (pv 2) (pa_cons (pv 3) (pa_cons (pv 10) (pa_cons (pv 4) (pa_cons (pv 5) (pa_cons (pv 9) pa_nil))))))))))))) (pss_one (ps_ret pe_bl)) pss_nil)
      (pss_one (ps_ret (pe_or (pe_cmpR op_isN (pv 11) pe_non (nomark _)) (pe_one (pe_dn dIsOwn hr (pa_cons (pv 1) (pa_cons (pv 2) (pa_cons (pv 3) (pa_cons (pv 11) (pa_cons (pv 4) (pa_cons (pv 5) (pa_cons (pe_op op_sub (pv 9) pe_int) pa_nil))))))))))))))))))))), ?_⟩
    have lxs : xs.length = ls.length := by rw [ds.len, List.length_map]
    have nr : r ≠ p := hp.ne hr0 fun _ z => by cases z
    refine ⟨_, rfl, p, pc, _, rfl, by omega, hp, fun H1 n n0 n1 hp1 k1 => ?_⟩
    have hr1 := k1 _ _ nr hr0
    refine ⟨_, rfl, _, rfl, r, xs, rfl, .inl (SqL.of hr1), p, pc, _, _, rfl, by omega, by omega, by omega, hp1, fun H2 d d0 d1 hp2 k2 => ⟨_, _, rfl, ?_⟩⟩
    obtain ⟨a, rfl⟩ : ∃ a : Nat, d = (a : Int) := ⟨d.toNat, by omega⟩
    refine norm (N := fun σ _ => _) (σ' := [some (.ref p), some v, some (.ref r), some (.int n), some (.int (a : Int)), none, none, none, none, none, none, none]) rfl ?_
    try dsimp only
    have k12 := k1.trans k2
    have hr2 := k12 _ _ nr hr0
    have ds2 := ds.to (LS.pen hp k12)
    obtain ⟨l, hl⟩ : ∃ l, ls[a]? = some l := ⟨_, List.getElem?_eq_getElem (by omega)⟩
    have ml := List.mem_of_getElem? hl
    have okl := ok l ml
    have sl := s1 l ml
    obtain ⟨n3, okS⟩ := lpOk_st okl
    obtain ⟨u, hu, du⟩ := DLs.get a _ ds2 (by rw [List.getElem?_map, hl]; rfl)
    have du0 := du
    obtain ⟨tl, q1, q2, ts, ys, rfl, htl, _, _, hts, dst⟩ := dl_lp du
    have lys : ys.length = l.sts.length := by rw [dst.len, List.length_map]
    refine ⟨_, rfl, _, rfl, _, rfl, r, _, _, _, rfl, rfl, SqL.of hr2, atI_nat hu, tl, _, _, _, rfl, rfl, SqT.of htl, at4, ts, ys, rfl, .inl (SqL.of hts), p, pc, _, _, rfl, by omega, by omega, by omega, hp2, fun H3 e e0 e1 hp3 k3 => ?_⟩
    obtain ⟨st, rfl⟩ : ∃ st : Nat, e = (st : Int) := ⟨e.toNat, by omega⟩
    have k13 := k12.trans k3
    have hr3 := k13 _ _ nr hr0
    have ds3 := ds.to (LS.pen hp k13)
    refine ⟨_, rfl, _, rfl, Pd, r, xs, ls, n, rfl, hr3, ds3, l6, ok, fun H4 s4 => ⟨_, _, rfl, ?_⟩⟩
    obtain ⟨M, hM⟩ : ∃ M : Nat, M = (works ls n).length := ⟨_, rfl⟩
    rw [← hM]
    refine norm (N := fun σ _ => _) (σ' := [some (.ref p), some v, some (.ref r), some (.int n), some (.int (a : Int)), some (.int (st : Int)), some (.int (M : Int)), none, none, none, none, none]) rfl ?_
    try dsimp only
    have k14 := k13.trans (Keep.of s4)
    have hp4 := hp3.same s4
    refine ⟨_, rfl, p, pc, _, rfl, by omega, hp4, fun H5 x x0 x1 hp5 k5 => ⟨_, _, rfl, rfl, .inr ⟨by omega, by omega⟩, ?_⟩⟩
    refine ⟨_, rfl, p, pc, _, rfl, by omega, hp5, fun H6 y y0 y1 hp6 k6 => ⟨_, _, rfl, rfl, .inl ⟨_, rfl, _, rfl, _, _, rfl, rfl, _, _, rfl, rfl, by omega, _, _, rfl, rfl, ?_⟩⟩⟩
    obtain ⟨num0, hnum0⟩ : ∃ num0 : Int, num0 = (x * 1000003 + y).fmod ((M : Int) + 3) - 1 := ⟨_, rfl⟩
    refine normG (σ' := [some (.ref p), some v, some (.ref r), some (.int n), some (.int (a : Int)), some (.int (st : Int)), some (.int (M : Int)), some (.int num0), none, none, none, none]) (by rw [hnum0]; rfl) ?_
    try dsimp only
    have k16 := k14.trans (k5.trans k6)
    refine mid (fun σ' H' => ∃ num : Int, σ' = [some (.ref p), some v, some (.ref r), some (.int n), some (.int (a : Int)), some (.int (st : Int)), some (.int (M : Int)), some (.int num), none, none, none, none] ∧ PenC H' p pc (t + 45) ∧ Keep p H H') (fun key => ?_) ?_
    · refine ⟨_, rfl, p, pc, 4, _, rfl, by decide, by decide, by omega, hp6, fun H7 c c0 c1 hp7 k7 => ⟨rfl, _, rfl, ite2 (fun _ => ?_) (fun _ => ?_)⟩⟩
      · have k17 := k16.trans k7
        refine ⟨_, rfl, _, rfl, _, rfl, p, pc, 2, _, rfl, by decide, by decide, by omega, hp7, fun H8 b b0 b1 hp8 k8 => ⟨_, _, rfl, rfl, _, rfl, r, xs, rfl, SqL.of ((k17.trans k8) _ _ nr hr0), fun D hD => ?_⟩⟩
        obtain ⟨b, rfl⟩ : ∃ b' : Nat, b = (b' : Int) := ⟨b.toNat, by omega⟩
        try dsimp only
        rw [← Int.natCast_add, cutK]
        have sD := Same.new (.lst (xs.take (a + b))) (Same.refl H8) hD
        refine ⟨_, rfl, Pd, D, xs.take (a + b), ls.take (a + b), n, rfl, upd_same, ?_, ?_, fun l hl => ok l (List.mem_of_mem_take hl), fun H9 s9 => ?_⟩
        · rw [List.map_take]
          exact ((ds.to (LS.pen hp (k17.trans k8))).to (.of sD)).take _
        · rw [List.length_take]
          omega
        have hp9 := hp8.same (sD.trans s9)
        refine ⟨_, rfl, p, pc, 3, _, rfl, by decide, by decide, by omega, hp9, fun HA w0 w00 w01 hpA kA => ⟨_, _, rfl, rfl, _, _, rfl, rfl, ?_⟩⟩
        exact key _ _ ⟨_, rfl, hpA.mono (by omega), (k17.trans k8).trans ((Keep.of (sD.trans s9)).trans kA)⟩
      · exact key _ _ ⟨num0, rfl, hp7.mono (by omega), k16.trans k7⟩
    have stl : st < l.sts.length := by omega
    clear hr1 hr2 hr3 ds2 ds3 du0 du hu htl hts dst lys
    rintro σ H7 ⟨num, rfl, hp7, k7⟩
    have hr7 := k7 _ _ nr hr0
    have ds7 := ds.to (LS.pen hp k7)
    obtain ⟨sm, hs⟩ : ∃ sm, l.sts[st]? = some sm := ⟨_, List.getElem?_eq_getElem (by omega)⟩
    have oks := okS sm (List.mem_of_getElem? hs)
    have hT : (cols l n)[st]? = some (dtn l n sm.gds) := by
      unfold cols
      rw [List.getElem?_map, hs]
      rfl
    obtain ⟨u7, hu7, du7⟩ := DLs.get a _ ds7 (by rw [List.getElem?_map, hl]; rfl)
    have du70 := du7
    obtain ⟨tl, q1, q2, ts, ys, rfl, htl, _, _, hts, dst⟩ := dl_lp du7
    obtain ⟨us, hus, dus⟩ := DLs.get st _ dst (by rw [List.getElem?_map, hs]; rfl)
    refine ⟨_, rfl, _, rfl, r, _, _, _, rfl, rfl, SqL.of hr7, atI_nat hu7, _, rfl, _, rfl, r, _, _, _, rfl, rfl, SqL.of hr7, atI_nat hu7, tl, _, _, _, rfl, rfl, SqT.of htl, at4, _, rfl, ts, _, _, _, rfl, rfl, SqL.of hts, atI_nat hus, _, rfl, Pd, _, us, l, sm, n, rfl, du70, dus, okl, oks, fun H8 s8 => ?_⟩
    have tot := cntB_high ok hl hT (x := (works ls n).length) (by
      rw [works_len fun l hl => (lpOk_st (ok l hl)).2]
      exact pre_mono (by omega))
    rw [← tot]
    obtain ⟨O, hO⟩ : ∃ O : Nat, O = cntB ls n a st (works ls n).length := ⟨_, rfl⟩
    rw [← hO]
    refine normG (σ' := [some (.ref p), some v, some (.ref r), some (.int n), some (.int (a : Int)), some (.int (st : Int)), some (.int (M : Int)), some (.int num), some (.int (O : Int)), none, none, none]) rfl ?_
    try dsimp only
    have k8 := k7.trans (Keep.of s8)
    have P8 : ∀ {Hx : Hp}, Same H8 Hx → PrOb K Hx v ls := fun e => hP.ms (hp.ms (KeepN.of (k8.trans (Keep.of e))))
    have ds8 := ds7.to (.of s8)
    have hr8 := s8 _ _ hr7
    refine ⟨_, rfl, _, rfl, _, rfl, _, rfl, _, rfl, _, rfl, Pd, v, r, xs, ls, n, num, a, st, l, _, rfl, P8 (Same.refl _), hr8, ds8, l6, ok, n0, n1, hl, hT, fun H9 s9 => ?_⟩
    obtain ⟨Bf, hBf⟩ : ∃ Bf : Nat, Bf = cntB ls n a st (min num.toNat (works ls n).length) := ⟨_, rfl⟩
    rw [← hBf]
    refine normG (σ' := [some (.ref p), some v, some (.ref r), some (.int n), some (.int (a : Int)), some (.int (st : Int)), some (.int (M : Int)), some (.int num), some (.int (O : Int)), some (.int (Bf : Int)), none, none]) rfl ?_
    try dsimp only
    refine mid (fun σ' H' => ∃ lv ev : V, σ' = [some (.ref p), some v, some (.ref r), some (.int n), some (.int (a : Int)), some (.int (st : Int)), some (.int (M : Int)), some (.int num), some (.int (O : Int)), some (.int (Bf : Int)), some lv, some ev] ∧ Same H9 H' ∧ (lv = .non ∧ Bf = O ∨ ∃ x : Nat, lv = .int (x : Int) ∧ isOwn ls n a st x ∧ Bf < O ∧ cntB ls n a st x = Bf) ∧ (ev = .non ∧ Bf = 0 ∨ ∃ x : Nat, ev = .int (x : Int) ∧ isOwn ls n a st x ∧ Bf = cntB ls n a st x + 1)) (fun key => ?_) ?_
    · refine ⟨_, rfl, _, rfl, _, rfl, _, rfl, _, rfl, v, ls, .int n, num, (a : Int), .int (st : Int), rfl, P8 (s9), l6, ok, fun z => absurd (show 0 ≤ (a : Int) ∧ (a : Int) ≤ (ls.length : Int) - 1 by omega) z, fun j l2 ej hl2 => ?_⟩
      obtain rfl : a = j := by omega
      rw [hl] at hl2
      cases hl2
      refine .inr ⟨_, rfl, fun z => absurd (show 0 ≤ (st : Int) ∧ (st : Int) ≤ (l.sts.length : Int) - 1 by omega) z, fun _ => sz_ok n0 n1 ⟨fun HA sA no => ?_, fun x3 HA sA o le least => ?_⟩⟩
      · have c1 : (V.non = .non ∧ Bf = O ∨ ∃ x : Nat, V.non = .int (x : Int) ∧ isOwn ls n a st x ∧ Bf < O ∧ cntB ls n a st x = Bf) := .inl ⟨rfl, by rw [hBf, hO, no_later (s := st) no]⟩
        refine ⟨_, rfl, _, rfl, _, rfl, _, rfl, _, rfl, v, ls, .int n, num, (a : Int), .int (st : Int), rfl, P8 (s9.trans sA), l6, ok, fun z => absurd (show 0 ≤ (a : Int) ∧ (a : Int) ≤ (ls.length : Int) - 1 by omega) z, fun j l2 ej hl2 => ?_⟩
        obtain rfl : a = j := by omega
        rw [hl] at hl2
        cases hl2
        refine .inr ⟨_, rfl, fun z => absurd (show 0 ≤ (st : Int) ∧ (st : Int) ≤ (l.sts.length : Int) - 1 by omega) z, fun _ => sz_ok n0 n1 ⟨fun HB sB no2 => ⟨_, _, rfl, key _ _ ⟨_, _, rfl, sA.trans sB, c1, .inl ⟨rfl, hBf.trans (no_earlier (s := st) no2)⟩⟩⟩, fun x2 HB sB o2 lt2 most2 => ⟨_, _, rfl, key _ _ ⟨_, _, rfl, sA.trans sB, c1, .inr ⟨x2, rfl, o2, hBf.trans (some_earlier (s := st) o2 lt2 most2)⟩⟩⟩⟩⟩
      · have z1 := some_later (s := st) o le least
        rw [← hBf, ← hO] at z1
        have c1 : (V.int (x3 : Int) = .non ∧ Bf = O ∨ ∃ x : Nat, V.int (x3 : Int) = .int (x : Int) ∧ isOwn ls n a st x ∧ Bf < O ∧ cntB ls n a st x = Bf) := .inr ⟨x3, rfl, o, z1.1, z1.2⟩
        refine ⟨_, rfl, _, rfl, _, rfl, _, rfl, _, rfl, v, ls, .int n, num, (a : Int), .int (st : Int), rfl, P8 (s9.trans sA), l6, ok, fun z => absurd (show 0 ≤ (a : Int) ∧ (a : Int) ≤ (ls.length : Int) - 1 by omega) z, fun j l2 ej hl2 => ?_⟩
        obtain rfl : a = j := by omega
        rw [hl] at hl2
        cases hl2
        refine .inr ⟨_, rfl, fun z => absurd (show 0 ≤ (st : Int) ∧ (st : Int) ≤ (l.sts.length : Int) - 1 by omega) z, fun _ => sz_ok n0 n1 ⟨fun HB sB no2 => ⟨_, _, rfl, key _ _ ⟨_, _, rfl, sA.trans sB, c1, .inl ⟨rfl, hBf.trans (no_earlier (s := st) no2)⟩⟩⟩, fun x2 HB sB o2 lt2 most2 => ⟨_, _, rfl, key _ _ ⟨_, _, rfl, sA.trans sB, c1, .inr ⟨x2, rfl, o2, hBf.trans (some_earlier (s := st) o2 lt2 most2)⟩⟩⟩⟩⟩
    rintro σ HB ⟨lv, ev, rfl, sB, c1, c2⟩
    have s9B := s9.trans sB
    have hrB := s9B _ _ hr8
    have dsB := ds8.to (.of s9B)
    refine ⟨_, rfl, _, _, rfl, rfl, _, rfl, if_no (decide_eq_false (by omega)) ?_⟩
    refine ⟨_, rfl, rfl, _, rfl, _, rfl, rfl, rfl, _, rfl, if_no ?_ ?_⟩
    · refine bl_same ?_
      rcases c1 with ⟨rfl, e⟩ | ⟨x, rfl, _, e, _⟩
      · exact ⟨fun _ => by rw [e], fun _ => rfl⟩
      · exact ⟨(fun z => by cases z), (fun z => by have := V.int.inj z; omega)⟩
    refine ⟨_, rfl, rfl, _, rfl, rfl, rfl, _, rfl, if_no ?_ ?_⟩
    · refine bl_same ?_
      rcases c2 with ⟨rfl, e⟩ | ⟨x, rfl, _, e⟩
      · exact ⟨fun _ => by rw [e]; rfl, fun _ => rfl⟩
      · exact ⟨(fun z => by cases z), (fun z => by have := V.int.inj z; omega)⟩
    refine un_next ?_
    try dsimp only
    refine mid (fun σ' H' => σ' = [some (.ref p), some v, some (.ref r), some (.int n), some (.int (a : Int)), some (.int (st : Int)), some (.int (M : Int)), some (.int num), some (.int (O : Int)), some (.int (Bf : Int)), some lv, some ev] ∧ Same HB H') (fun key => ?_) ?_
    · rcases c1 with ⟨rfl, e⟩ | ⟨x, rfl, o, _, ex⟩
      · exact ⟨_, rfl, rfl, _, rfl, if_no rfl (if_no rfl (key _ _ ⟨rfl, Same.refl _⟩))⟩
      · refine ⟨_, rfl, rfl, _, rfl, if_yes rfl ?_⟩
        exact ⟨_, rfl, _, rfl, _, rfl, _, rfl, _, rfl, _, rfl, _, rfl, Pd, v, r, xs, ls, n, x, a, st, l, _, (by rw [ex]; rfl), P8 s9B, hrB, dsB, l6, ok, n0, n1, hl, hT, o, fun HC sC => ⟨_, rfl, if_no rfl (key _ _ ⟨rfl, sC⟩)⟩⟩
    rintro σ HC ⟨rfl, sC⟩
    have s9C := s9B.trans sC
    have hpC := hp7.same (s8.trans s9C)
    have kC := k8.trans (Keep.of s9C)
    rcases c2 with ⟨rfl, e⟩ | ⟨x, rfl, o, ex⟩
    · exact ⟨_, rfl, rfl, _, rfl, if_yes rfl (k HC (hpC.mono (by omega)) kC)⟩
    · refine ⟨_, rfl, rfl, _, rfl, if_no rfl ?_⟩
      exact ⟨_, rfl, _, rfl, _, rfl, _, rfl, _, rfl, _, rfl, _, rfl, _, _, rfl, rfl, Pd, v, r, xs, ls, n, x, a, st, l, _, (by dsimp only; rw [ex, show ((cntB ls n a st x + 1 : Nat) : Int) - 1 = (cntB ls n a st x : Int) by omega]; rfl), P8 s9C, sC _ _ hrB, dsB.to (.of sC), l6, ok, n0, n1, hl, hT, o, fun HD sD => k HD ((hpC.same sD).mono (by omega)) (kC.trans (Keep.of sD))⟩
end
end K35
set_option maxHeartbeats 4000000
namespace K35
open PySem PySem.Spec PyProof.Rows L2 Z
/-- the own numbers as a list: which they are, in order -/
theorem own_list {ls : List LpM} {n : Int} {a s L : Nat} (hL : L = (works ls n).length) (q : Nat → Bool) : (∀ y, y ∈ ((List.range L).filter fun y => ownB ls n a s y).filter q ↔ isOwn ls n a s y ∧ q y = true) ∧ (((List.range L).filter fun y => ownB ls n a s y).filter q).Pairwise (· < ·) := by
  refine ⟨fun y => ?_, (List.pairwise_lt_range.filter _).filter _⟩
  rw [List.mem_filter, List.mem_filter, List.mem_range, ownB_iff]
  exact ⟨fun h => ⟨h.1.2, h.2⟩, fun h => ⟨⟨by rw [hL]; exact own_len h.1, h.1⟩, h.2⟩⟩
theorem list_head {xs : List Nat} {x : Nat} {r : List Nat} (p : xs.Pairwise (· < ·)) (e : xs = x :: r) : ∀ y ∈ xs, x ≤ y := fun y hy => by
  subst e
  rcases List.mem_cons.mp hy with rfl | hy
  · exact Nat.le_refl _
  · exact Nat.le_of_lt (List.rel_of_pairwise_cons p hy)
theorem list_last {xs r : List Nat} {x : Nat} (p : xs.Pairwise (· < ·)) (e : xs = r ++ [x]) : ∀ y ∈ xs, y ≤ x := fun y hy => by
  subst e
  rcases List.mem_append.mp hy with hy | hy
  · exact Nat.le_of_lt ((List.pairwise_append.mp p).2.2 y hy x (List.mem_singleton.mpr rfl))
  · rw [List.mem_singleton.mp hy]
    exact Nat.le_refl _
theorem lay_nats (xs : List Nat) : Lay 1 (.list (xs.map fun (y : Nat) => PyData.int (y : Int))) := Lay.lst fun d hd => by
  obtain ⟨q, _, rfl⟩ := List.mem_map.mp hd
  exact lay_int _
theorem dts_nats {H : Hp} : ∀ xs : List Nat, DTs H (xs.map fun (y : Nat) => V.int (y : Int)) (xs.map fun (y : Nat) => PyData.int (y : Int))
  | [] => .nil
  | x :: xs => .cons (.int _) (dts_nats xs)
theorem few_if {K : PySem.W.Frag} {σ : L2.St} {H : Hp} {Q : VK} {i : Nat} {L : Addr} {xs : List Nat} {t : TE} (hσ : σ[i]? = some (some (.ref L))) (hL : H L = some (.lst (xs.map fun (y : Nat) => V.int (y : Int)))) (k0 : xs = [] → ∀ H', Same H H' → Q .non H') (k1 : xs ≠ [] → ∀ H', Same H H' → t σ H' Q) : tIf (tTest (tOp (rNeD K) (tVar i) (tLst tNil))) t (tC V.non) σ H Q := by
  refine ⟨_, hσ, sz0, fun e he => ?_⟩
  have s1 := Same.new (.lst []) (Same.refl H) he
  refine ⟨_, .list [], .lst (SqL.of (s1 _ _ hL)) (DTs.dp _ (dts_nats xs)), .lst (SqL.of upd_same) .nil, (lay_nats xs).shaped (by decide), rfl, _, rfl, ?_⟩
  cases xs with
  | nil => exact if_no rfl (k0 rfl _ s1)
  | cons x r => exact if_yes rfl (k1 (fun z => by cases z) _ s1)
theorem works_few {ls : List LpM} {n : Int} (ok : ∀ l ∈ ls, LpOk l) (few : ∀ l ∈ ls, lpN l n ≤ 5000) : ∀ m, (wA ls n m).length ≤ m * 15000 := by
  intro m
  induction m with
  | zero => simp [wA]
  | succ m ih =>
    cases h : ls[m]? with
    | some l =>
      rw [wA_succ h, List.length_append, Nat.succ_mul]
      have h1 := wC_len (l := l) (n := n) (j := m) (m := (lpCs l n).length)
      have h2 := lpCs_n l n
      have h3 := (lpOk_st (ok l (List.mem_of_getElem? h))).1
      have h4 := few l (List.mem_of_getElem? h)
      have h5 : (lpCs l n).length * l.sts.length ≤ 5000 * 3 := Nat.mul_le_mul (by omega) h3
      omega
    | none =>
      have e : wA ls n (m + 1) = wA ls n m := by
        unfold wA
        rw [List.range_succ, List.flatMap_append]
        simp [h]
      rw [e, Nat.succ_mul]
      omega
theorem lpN_few {l : LpM} {n : Int} (ok : LpOk l) (n0 : 0 ≤ n) (n6 : n ≤ 10) : lpN l n ≤ 1000 := by
  obtain ⟨a0, a1, c0, c1, d0, d1, x0, x1, z0, z1, u0, u1, S0, S1, _⟩ := ok
  have b2 : pv_ l.h0 l.h1 l.h2 n ≤ 930 := by
    unfold pv_
    rw [Int.fdiv_eq_ediv_of_nonneg _ (by omega)]
    have e : l.h0 * n ≤ 3 * 10 := Int.mul_le_mul x1 n6 n0 (by decide)
    exact Int.ediv_le_of_le_mul (by omega) (by
      have : (930 : Int) * 1 ≤ 930 * l.h2 := Int.mul_le_mul_of_nonneg_left u0 (by decide)
      omega)
  have l0 : 0 ≤ lpL l n := by
    unfold lpL lc_
    split
    · assumption
    · exact (fmod_range (by omega)).1
  unfold lpN mt_
  rw [Int.fdiv_eq_ediv_of_nonneg _ (by omega)]
  split
  · have e1 := Int.mul_ediv_add_emod (lpL l n - pv_ l.h0 l.h1 l.h2 n) l.S
    have e2 := Int.emod_lt_of_pos (lpL l n - pv_ l.h0 l.h1 l.h2 n) (show 0 < l.S by omega)
    obtain ⟨q, hq⟩ : ∃ q, q = (lpL l n - pv_ l.h0 l.h1 l.h2 n) / l.S := ⟨_, rfl⟩
    rw [← hq] at e1 ⊢
    by_cases z : q ≤ -1001
    · have : l.S * q ≤ 1 * q := by
        have := Int.mul_le_mul_of_nonpos_right S0 (show q ≤ 0 by omega)
        exact this
      omega
    · omega
  · omega
theorem ix_listK {X : Cx} {K : PySem.W.Frag} (hK : X.K = K) : IxR X (rIxL K) := hK ▸ ix_list
section
variable {P : Program} {w : World} {K : PySem.W.Frag} {mg : Str → Option Value} {base : Heap}
theorem sc_law_small_right : FnScope ["_law_pen", "_law_program_here", "_law_rows", "_law_n", "_law_at", "_law_works_here", "_law_k", "_law_own", "_law_number_here", "_law_lap", "_law_later", "_law_earlier", "_law_one"] ["_law_pen", "_law_program_here", "_law_rows"] (defScope s_law_small_right) := ⟨rfl, rfl, rfl, by decide +kernel, rfl, by decide +kernel, by decide +kernel⟩
theorem ok_smallR {f : Addr} {fd : FuncData} (F : FnP K "_law_small_right" s_law_small_right f fd) (T : LwTx K mg) (dDraw : Dn P w K mg base 1 "_law_draw" ["_law_pen", "_law_many_here"] spDraw) (dWorks : Dn P w K mg base 4 "_law_works" ["_law_rows", "_law_n"] spWorks)
    (dNW : Dx P w K mg base 8 "next_work" ["program", "n", "number", "loop", "statement"] (spNW K)) (dLW : Dx P w K mg base 8 "last_work" ["program", "n", "number", "loop", "statement"] (spLW K)) :
    FnOk P w K mg base CX0 9 f fd ["_law_pen", "_law_program_here", "_law_rows"] (spSmallR K) := by
  refine F.ok sc_law_small_right (fun vs H Q E h => ?_) (fun cdv A outer s H vs Q E hr h => ?_)
  · obtain ⟨Pd, p, pc, v, r, xs, ls, t, rfl, _⟩ := h
    rfl
  · obtain ⟨Pd, p, pc, v, r, xs, ls, t, rfl, hP, hr0, ds, l6, ok, l1, s1, ht, hp, k⟩ := h
    refine ⟨_, PSs.nox (pss_cons (ps_asg (pe_tup (pa_cons (pe_dn dDraw hr (pa_cons (pv 0) (pa_cons pe_int pa_nil))) (pa_cons (pe_dn dDraw hr (pa_cons (pv 0) (pa_cons (pe_callB (call_len_seqK (K := K) rfl) (by rfl) T.len PySem.boot_len (pa_cons (pv 2) pa_nil)) pa_nil))) pa_nil))) (pg_tup (by rfl) (pgs_cons (pg_name (i := 3) sc_law_small_right.nd rfl (.inl rfl)) (pgs_cons (pg_name (i := 4) sc_law_small_right.nd rfl (.inr rfl)) pgs_nil))))
      (pss_cons (ps_asg (pe_tup (pa_cons (pe_dn dWorks hr (pa_cons (pv 2) (pa_cons (pv 3) pa_nil))) (pa_cons (pe_dn dDraw hr (pa_cons (pv 0) (pa_cons (pe_callB (call_len_seqK (K := K) rfl) (by rfl) T.len PySem.boot_len (pa_cons (pe_ix (ix_tupK (K := K) rfl) (pe_ix (ix_listK (K := K) rfl) (pv 2) (pv 4) (fun _ _ => rfl)) pe_int (fun _ _ => rfl)) pa_nil)) pa_nil))) pa_nil))) (pg_tup (by rfl) (pgs_cons (pg_name (i := 5) sc_law_small_right.nd rfl (.inr rfl)) (pgs_cons (pg_name (i := 6) sc_law_small_right.nd rfl (.inr rfl)) pgs_nil))))
      (pss_cons (ps_setLc (i := 7) (own := [("_law_number_here", 8)]) (g := gName 8) rfl sc_law_small_right.nd rfl rfl (sw_true rfl rfl rfl (by decide +kernel)) (pi_range1 (by rfl) T.range (pa_cons (pe_callB (call_len_seqK (K := K) rfl) (by rfl) T.len PySem.boot_len (pa_cons (pv 5) pa_nil)) pa_nil)) (blkOk_by (N := ["_law_pen", "_law_program_here", "_law_rows", "_law_n", "_law_at", "_law_works_here", "_law_k", "_law_own", "_law_number_here", "_law_lap", "_law_later", "_law_earlier", "_law_one"]) (sc := defScope s_law_small_right) (by decide +kernel)) (fun _ _ _ _ _ => (pg_name (i := 8) sc_law_small_right.nd rfl (.inl rfl))) (fun _ _ _ _ _ => (pts_one (PW.pt (pw_and (pt_cmpR op_eq (pe_ix (ix_tupK (K := K) rfl) (pe_ix (ix_listK (K := K) rfl) (pv 5) (pv 8) (fun _ _ => rfl)) pe_int (fun _ _ => rfl)) (pv 4) (nomark _)) (pw_and1 (pt_cmpR op_eq (pe_ix (ix_tupK (K := K) rfl) (pe_ix (ix_listK (K := K) rfl) (pv 5) (pv 8) (fun _ _ => rfl)) pe_int (fun _ _ => rfl)) (pv 6) (nomark _))))))) (fun _ _ _ _ _ => (pv 8)))
      (pss_cons (ps_for PassesOwn.never rfl (pi_list (pe_lc (own := [("_law_lap", 9)]) (g := gName 9) (tt := tYes) rfl sc_law_small_right.nd (pi_range1 (by rfl) T.range (pa_cons pe_int pa_nil)) (blkOk_by (N := ["_law_pen", "_law_program_here", "_law_rows", "_law_n", "_law_at", "_law_works_here", "_law_k", "_law_own", "_law_number_here", "_law_lap", "_law_later", "_law_earlier", "_law_one"]) (sc := defScope s_law_small_right) (by decide +kernel)) (fun _ _ _ _ _ => (pg_name (i := 9) sc_law_small_right.nd rfl (.inl rfl))) (fun _ _ _ _ _ => pts_nil) (fun _ _ _ _ _ => (pe_op op_sub (pe_dn dDraw hr (pa_cons (pv 0) (pa_cons (pe_op op_add (pe_callB (call_len_seqK (K := K) rfl) (by rfl) T.len PySem.boot_len (pa_cons (pv 5) pa_nil)) pe_int) pa_nil))) pe_int)))) (pg_name (i := 8) sc_law_small_right.nd rfl (.inr rfl)) (pss_cons (ps_par (i := 10) (j := 11) (by rfl) sc_law_small_right.nd rfl rfl (by decide) rfl rfl (pa_cons (pe_lc (own := [("_law_one", 12)]) (g := gName 12) rfl sc_law_small_right.nd (pi_list (pv 7)) (blkOk_by (N := ["_law_pen", "_law_program_here", "_law_rows", "_law_n", "_law_at", "_law_works_here", "_law_k", "_law_own", "_law_number_here", "_law_lap", "_law_later", "_law_earlier", "_law_one"]) (sc := defScope s_law_small_right) (by decide +kernel)) (fun _ _ _ _ _ => (pg_name (i := 12) sc_law_small_right.nd rfl (.inl rfl))) (fun _ _ _ _ _ => (pts_one (pt_cmpR op_ge (pv 12) (pv 8) (nomark _)))) (fun _ _ _ _ _ => (pv 12))) (pa_cons (pe_lc (own := [("_law_one", 12)]) (g := gName 12) rfl sc_law_small_right.nd (pi_list (pv 7)) (blkOk_by (N := ["_law_pen", "_law_program_here", "_law_rows", "_law_n", "_law_at", "_law_works_here", "_law_k", "_law_own", "_law_number_here", "_law_lap", "_law_later", "_law_earlier", "_law_one"]) (sc := defScope s_law_small_right) (by decide +kernel)) (fun _ _ _ _ _ => (pg_name (i := 12) sc_law_small_right.nd rfl (.inl rfl))) (fun _ _ _ _ _ => (pts_one (pt_cmpR op_lt (pv 12) (pv 8) (nomark _)))) (fun _ _ _ _ _ => (pv 12))) pa_nil)) (by rfl))
      (pss_cons (ps_if (pt_cmpR op_ne (pe_dx (K := K) dNW rfl hr at_E0 (pa_cons (pv 1) (pa_cons (pv 3) (pa_cons (pv 8) (pa_cons (pv 4) (pa_cons (pv 6) pa_nil)))))) (pe_ifExp (pt_cmpR (op_neD hr.units) (pv 10) (pe_lst pa_nil) (nomark _)) (pe_ix (ix_listK (K := K) rfl) (pv 10) pe_int (fun _ _ => rfl)) pe_non) (nomark _)) (pss_one (ps_ret pe_bl)) pss_nil)
      (pss_one (ps_if (pt_cmpR op_ne (pe_dx (K := K) dLW rfl hr at_E0 (pa_cons (pv 1) (pa_cons (pv 3) (pa_cons (pv 8) (pa_cons (pv 4) (pa_cons (pv 6) pa_nil)))))) (pe_ifExp (pt_cmpR (op_neD hr.units) (pv 11) (pe_lst pa_nil) (nomark _)) (pe_ix (ix_listK (K := K) rfl) (pv 11) (pe_un un_neg pe_int) (fun _ _ => rfl)) pe_non) (nomark _)) (pss_one (ps_ret pe_bl)) pss_nil)))))
      (pss_one (ps_ret pe_bl)))))), ?_⟩
    have lxs : xs.length = ls.length := by rw [ds.len, List.length_map]
    have nr : r ≠ p := hp.ne hr0 fun _ z => by cases z
    refine ⟨_, rfl, p, pc, 5, t, rfl, by decide, by decide, by omega, hp, fun H1 n n0 n1 hp1 k1 => ?_⟩
    have hr1 := k1 _ _ nr hr0
    refine ⟨_, rfl, _, rfl, r, xs, rfl, .inl (SqL.of hr1), p, pc, _, _, rfl, by omega, by omega, by omega, hp1, fun H2 d d0 d1 hp2 k2 => ⟨sz2, fun u0 hu0 => ?_⟩⟩
    obtain ⟨a, rfl⟩ : ∃ a : Nat, d = (a : Int) := ⟨d.toNat, by omega⟩
    have s3 := Same.new (.tup [.int n, .int (a : Int)]) (Same.refl H2) hu0
    refine ⟨u0, _, rfl, SqT.of upd_same, rfl, _, _, rfl, _, _, rfl, rfl, ?_⟩
    refine norm (N := fun σ _ => _) (σ' := [some (.ref p), some v, some (.ref r), some (.int n), some (.int (a : Int)), none, none, none, none, none, none, none, none]) rfl ?_
    try dsimp only
    have k3 := (k1.trans k2).trans (Keep.of s3)
    have hp3 := hp2.same s3
    obtain ⟨H3, eH3⟩ : ∃ X, X = upd H2 u0 (.tup [.int n, .int (a : Int)]) := ⟨_, rfl⟩
    rw [← eH3] at k3 hp3 ⊢
    have hr3 := k3 _ _ nr hr0
    have ds3 := ds.to (LS.pen hp k3)
    obtain ⟨l, hl⟩ : ∃ l, ls[a]? = some l := ⟨_, List.getElem?_eq_getElem (by omega)⟩
    have ml := List.mem_of_getElem? hl
    have okl := ok l ml
    have sl := s1 l ml
    obtain ⟨n3, okS⟩ := lpOk_st okl
    have few : ∀ l ∈ ls, lpN l n ≤ 5000 := fun l hl => Int.le_trans (lpN_few (ok l hl) n0 (by omega)) (by decide)
    have n6 : n ≤ TOP := Int.le_trans (show n ≤ 6 by omega) (by decide)
    refine ⟨_, rfl, _, rfl, Pd, r, xs, ls, n, rfl, hr3, ds3, by omega, ok, few, fun D H4 ws s4 nD eD4 dw4 => ?_⟩
    have k4 := k3.trans (Keep.of s4)
    have hp4 := hp3.same s4
    have ds4 := ds3.to (.of s4)
    obtain ⟨u, hu, du⟩ := DLs.get a _ ds4 (by rw [List.getElem?_map, hl]; rfl)
    obtain ⟨tl, q1, q2, ts, ys, rfl, htl, _, _, hts, dst⟩ := dl_lp du
    have lys : ys.length = l.sts.length := by rw [dst.len, List.length_map]
    refine ⟨_, rfl, _, rfl, _, rfl, r, _, _, _, rfl, rfl, SqL.of (s4 _ _ hr3), atI_nat hu, tl, _, _, _, rfl, rfl, SqT.of htl, at4, ts, ys, rfl, .inl (SqL.of hts), p, pc, _, _, rfl, by omega, by omega, by omega, hp4, fun H5 e e0 e1 hp5 k5 => ⟨sz2, fun u6 hu6 => ?_⟩⟩
    obtain ⟨st, rfl⟩ : ∃ st : Nat, e = (st : Int) := ⟨e.toNat, by omega⟩
    have stl : st < l.sts.length := by omega
    have s6 := Same.new (.tup [.ref D, .int (st : Int)]) (Same.refl H5) hu6
    refine ⟨u6, _, rfl, SqT.of upd_same, rfl, _, _, rfl, _, _, rfl, rfl, ?_⟩
    refine norm (N := fun σ _ => _) (σ' := [some (.ref p), some v, some (.ref r), some (.int n), some (.int (a : Int)), some (.ref D), some (.int (st : Int)), none, none, none, none, none, none]) rfl ?_
    try dsimp only
    have k6 := (k4.trans k5).trans (Keep.of s6)
    have hp6 := hp5.same s6
    have nDp : D ≠ p := hp4.ne eD4 fun _ z => by cases z
    have eD6 := s6 _ _ (k5 _ _ nDp eD4)
    have dw6 : DTs (upd H5 u6 (.tup [.ref D, .int (st : Int)])) ws ((works ls n).map wD) := (dw4.to (fun a xs e => k5 _ _ (hp4.ne e fun _ z => by cases z) e)).to (.of s6)
    obtain ⟨H6, eH6⟩ : ∃ X, X = upd H5 u6 (.tup [.ref D, .int (st : Int)]) := ⟨_, rfl⟩
    rw [← eH6] at k6 hp6 eD6 dw6 ⊢
    have lws : ws.length = (works ls n).length := by rw [dw6.len, List.length_map]
    have lW : (works ls n).length ≤ 90000 := by
      have h1 := works_few ok few ls.length
      have h2 : (works ls n).length = (wA ls n ls.length).length := rfl
      omega
    refine ⟨_, rfl, D, ws, rfl, .inl (SqL.of eD6), (ws.length : Int), rfl, by omega, by omega, ?_⟩
    rw [Int.toNat_natCast]
    intro G hG
    refine lc_range (lo := 0) (n := ws.length) (fun b Hc => Hc G = some (.lst (((List.range b).filter fun y => ownB ls n a st y).map fun (y : Nat) => V.int (y : Int))) ∧ Same H6 Hc) ⟨upd_same, Same.new _ (Same.refl H6) hG⟩ ?_ ?_
    · rintro b Hc hb ⟨eG, sc⟩
      obtain ⟨w0, hw0⟩ : ∃ w0, (works ls n)[b]? = some w0 := ⟨_, List.getElem?_eq_getElem (by omega)⟩
      obtain ⟨vt, hvt, dt⟩ := DTs.get b _ (dw6.to (.of sc)) (by rw [List.getElem?_map, hw0]; rfl)
      obtain ⟨tb, rfl, htb⟩ := dt3' dt
      have atb : atI ws (0 + (b : Int)) = some (.ref tb) := by rw [Int.zero_add]; exact atI_nat hvt
      have eo : ownB ls n a st b = (decide (w0.1 = (a : Int)) && decide (w0.2.2 = (st : Int))) := by
        unfold ownB
        rw [hw0]
      have step : (List.range (b + 1)).filter (fun y => ownB ls n a st y) = (List.range b).filter (fun y => ownB ls n a st y) ++ if ownB ls n a st b = true then [b] else [] := by
        rw [List.range_succ, List.filter_append]
        congr 1
        by_cases q : ownB ls n a st b = true
        · rw [if_pos q, List.filter_cons_of_pos q]
          rfl
        · rw [if_neg q, List.filter_cons_of_neg q]
          rfl
      have lim : ((List.range b).filter fun y => ownB ls n a st y).length ≤ b := Nat.le_trans (List.length_filter_le _ _) (by rw [List.length_range]; exact Nat.le_refl _)
      refine ⟨rfl, _, rfl, _, rfl, D, _, _, _, rfl, rfl, SqL.of (sc _ _ eD6), atb, tb, _, _, _, rfl, rfl, SqT.of htb, at0, _, rfl, rfl, _, rfl, ?_⟩
      rw [decI]
      by_cases z1 : w0.1 = (a : Int)
      · rw [decide_eq_true z1]
        refine if_yes rfl ?_
        refine ⟨_, rfl, _, rfl, D, _, _, _, rfl, rfl, SqL.of (sc _ _ eD6), atb, tb, _, _, _, rfl, rfl, SqT.of htb, at2, _, rfl, rfl, _, rfl, ?_⟩
        rw [decI]
        by_cases z2 : w0.2.2 = (st : Int)
        · rw [decide_eq_true z2]
          rw [if_pos (by rw [eo, decide_eq_true z1, decide_eq_true z2]; rfl)] at step
          refine if_yes rfl ⟨_, rfl, _, eG, sz1m _ (by rw [List.length_map]; omega), ?_, fun c o e => ?_⟩
          · rw [upd_same, step, List.map_append, Int.zero_add]
            rfl
          · rw [upd_ne (ne_of_none e hG)]
            exact sc _ _ e
        · rw [decide_eq_false z2]
          rw [if_neg (by rw [eo, decide_eq_false z2, Bool.and_false]; exact Bool.false_ne_true), List.append_nil] at step
          rw [step]
          exact if_no rfl ⟨eG, sc⟩
      · rw [decide_eq_false z1]
        rw [if_neg (by rw [eo, decide_eq_false z1, Bool.false_and]; exact Bool.false_ne_true), List.append_nil] at step
        rw [step]
        exact if_no rfl (if_no rfl ⟨eG, sc⟩)
    rintro H7 ⟨eG, s7⟩
    obtain ⟨OL, hOL⟩ : ∃ OL : List Nat, OL = (List.range ws.length).filter fun y => ownB ls n a st y := ⟨_, rfl⟩
    rw [← hOL] at eG
    refine normG (σ' := [some (.ref p), some v, some (.ref r), some (.int n), some (.int (a : Int)), some (.ref D), some (.int (st : Int)), some (.ref G), none, none, none, none, none]) rfl ?_
    try dsimp only
    have k7 := k6.trans (Keep.of s7)
    have hp7 := hp6.same s7
    have eD7 := s7 _ _ eD6
    have nGp : G ≠ p := hp7.ne eG fun _ z => by cases z
    refine ⟨6, rfl, by decide, by decide, fun NL hNL => ?_⟩
    have fN := hp7.free hNL
    have keepN7 : ∀ {c : Addr} {o : HO}, H7 c = some o → c ≠ NL := fun e => ne_of_none e hNL
    refine lc_range (lo := 0) (n := 6) (fun b Hc => ∃ ms : List Int, Hc NL = some (.lst (ms.map V.int)) ∧ ms.length = b ∧ PenC Hc p pc (t + 4 + b) ∧ ∀ c o, c ≠ p → H7 c = some o → Hc c = some o) ⟨[], upd_same, rfl, (hp7.same (Same.new _ (Same.refl H7) hNL)).mono (by omega), fun c o _ e => (Same.new _ (Same.refl H7) hNL) _ _ e⟩ ?_ ?_
    · rintro b Hc hb ⟨ms, eN, lm, hpc, kc⟩
      refine ⟨rfl, yes_of ?_⟩
      refine ⟨_, rfl, _, rfl, D, ws, rfl, .inl (SqL.of (kc _ _ nDp eD7)), _, _, rfl, rfl, p, pc, _, _, rfl, by omega, by omega, by omega, hpc, fun Hd d d0 d1 hpd kd => ⟨_, _, rfl, rfl, ?_⟩⟩
      have eNd := kd _ _ fN.1 eN
      refine ⟨_, eNd, sz1m _ (by rw [List.length_map]; omega), ms ++ [d - 2], ?_, by rw [List.length_append, lm]; rfl, hpd.upd fN.1 fN.2 (by omega), fun c o nc e => ?_⟩
      · rw [upd_same, List.map_append]
        rfl
      · rw [upd_ne (keepN7 e)]
        exact kd _ _ nc (kc _ _ nc e)
    rintro HN ⟨ms, eN, lm, hpN, kN⟩
    have eGN := kN _ _ nGp eG
    have k7N : Keep p H HN := k7.trans fun c o nc e => kN c o nc e
    have lOL : OL.length ≤ 90000 := by
      rw [hOL]
      exact Nat.le_trans (List.length_filter_le _ _) (by rw [List.length_range]; omega)
    refine ⟨NL, rfl, ⟨_, SqL.of eN⟩, ?_⟩
    refine for_list (K := K) (xs := ms.map V.int) (fun j σ H' => ∃ (v8 v9 v10 v11 v12 : Option V), σ = [some (.ref p), some v, some (.ref r), some (.int n), some (.int (a : Int)), some (.ref D), some (.int (st : Int)), some (.ref G), v8, v9, v10, v11, v12] ∧ Same HN H') ⟨_, _, _, _, _, rfl, Same.refl _⟩ (fun _ _ H' _ ⟨_, _, _, _, _, _, z⟩ => SqL.of (z _ _ eN)) ?_ ?_
    · rintro j x σ H8 hx ⟨v8, v9, v10, v11, v12, rfl, s8⟩
      rw [List.getElem?_map] at hx
      obtain ⟨num, hnum, rfl⟩ := Option.map_eq_some_iff.mp hx
      refine normG (σ' := [some (.ref p), some v, some (.ref r), some (.int n), some (.int (a : Int)), some (.ref D), some (.int (st : Int)), some (.ref G), some (.int num), v9, v10, v11, v12]) rfl ?_
      have eG_H8 := s8 _ _ eGN
      refine ⟨_, rfl, G, rfl, ⟨_, SqL.of eG_H8⟩, fun LT hLT => ?_⟩
      refine lc_list (K := K) (xs := OL.map fun (y : Nat) => V.int (y : Int)) (fun b Hc => Hc LT = some (.lst (((OL.take b).filter fun (y : Nat) => decide (num ≤ (y : Int))).map fun (y : Nat) => V.int (y : Int))) ∧ Same H8 Hc) ⟨upd_same, Same.new _ (Same.refl H8) hLT⟩ (fun b Hc _ z => SqL.of (z.2 _ _ eG_H8)) ?_ ?_
      · rintro b x Hc hx ⟨eL, sc⟩
        rw [List.getElem?_map] at hx
        obtain ⟨y, hy, rfl⟩ := Option.map_eq_some_iff.mp hx
        have step := filt_snoc (p := fun y : Nat => decide (num ≤ (y : Int))) hy
        have lim : ((OL.take b).filter fun (y : Nat) => decide (num ≤ (y : Int))).length ≤ 90000 := Nat.le_trans (List.length_filter_le _ _) (by rw [List.length_take]; omega)
        refine ⟨rfl, _, rfl, _, rfl, _, _, rfl, rfl, _, rfl, ite2 (fun z => ?_) (fun z => ?_)⟩
        · rw [if_pos z] at step
          refine ⟨_, rfl, _, eL, sz1m _ (by rw [List.length_map]; omega), ?_, fun c o e => ?_⟩
          · rw [upd_same, step, List.map_append]
            rfl
          · rw [upd_ne (ne_of_none e hLT)]
            exact sc _ _ e
        · rw [if_neg z, List.append_nil] at step
          rw [step]
          exact ⟨eL, sc⟩
      rintro H9 ⟨eLT, s9⟩
      rw [List.length_map, List.take_length] at eLT
      have eG_H9 := s9 _ _ eG_H8
      refine ⟨_, rfl, G, rfl, ⟨_, SqL.of eG_H9⟩, fun ET hET => ?_⟩
      refine lc_list (K := K) (xs := OL.map fun (y : Nat) => V.int (y : Int)) (fun b Hc => Hc ET = some (.lst (((OL.take b).filter fun (y : Nat) => decide ((y : Int) < num)).map fun (y : Nat) => V.int (y : Int))) ∧ Same H9 Hc) ⟨upd_same, Same.new _ (Same.refl H9) hET⟩ (fun b Hc _ z => SqL.of (z.2 _ _ eG_H9)) ?_ ?_
      · rintro b x Hc hx ⟨eL, sc⟩
        rw [List.getElem?_map] at hx
        obtain ⟨y, hy, rfl⟩ := Option.map_eq_some_iff.mp hx
        have step := filt_snoc (p := fun y : Nat => decide ((y : Int) < num)) hy
        have lim : ((OL.take b).filter fun (y : Nat) => decide ((y : Int) < num)).length ≤ 90000 := Nat.le_trans (List.length_filter_le _ _) (by rw [List.length_take]; omega)
        refine ⟨rfl, _, rfl, _, rfl, _, _, rfl, rfl, _, rfl, ite2 (fun z => ?_) (fun z => ?_)⟩
        · rw [if_pos z] at step
          refine ⟨_, rfl, _, eL, sz1m _ (by rw [List.length_map]; omega), ?_, fun c o e => ?_⟩
          · rw [upd_same, step, List.map_append]
            rfl
          · rw [upd_ne (ne_of_none e hET)]
            exact sc _ _ e
        · rw [if_neg z, List.append_nil] at step
          rw [step]
          exact ⟨eL, sc⟩
      rintro HA ⟨eET, sA⟩
      rw [List.length_map, List.take_length] at eET
      refine ⟨_, _, rfl, ?_⟩
      refine norm (N := fun σ _ => _) (σ' := [some (.ref p), some v, some (.ref r), some (.int n), some (.int (a : Int)), some (.ref D), some (.int (st : Int)), some (.ref G), some (.int num), v9, some (.ref LT), some (.ref ET), v12]) rfl ?_
      try dsimp only
      have fL := own_list (ls := ls) (n := n) (a := a) (s := st) lws fun y => decide (num ≤ (y : Int))
      have fE := own_list (ls := ls) (n := n) (a := a) (s := st) lws fun y => decide ((y : Int) < num)
      rw [← hOL] at fL fE
      have sNA := (s8.trans s9).trans sA
      have PA : ∀ {Hx : Hp}, Same HA Hx → PrOb K Hx v ls := fun e => hP.ms (hp.ms (KeepN.of (k7N.trans (Keep.of (sNA.trans e)))))
      have eLA := sA _ _ eLT
      refine mid (fun σ' H' => σ' = [some (.ref p), some v, some (.ref r), some (.int n), some (.int (a : Int)), some (.ref D), some (.int (st : Int)), some (.ref G), some (.int num), v9, some (.ref LT), some (.ref ET), v12] ∧ Same HA H') (fun key => ?_) ?_
      · refine ⟨_, rfl, _, rfl, _, rfl, _, rfl, _, rfl, v, ls, .int n, num, (a : Int), .int (st : Int), rfl, PA (Same.refl _), l6, ok, fun z => absurd (show 0 ≤ (a : Int) ∧ (a : Int) ≤ (ls.length : Int) - 1 by omega) z, fun j2 l2 ej hl2 => ?_⟩
        obtain rfl : a = j2 := by omega
        rw [hl] at hl2
        cases hl2
        refine .inr ⟨_, rfl, fun z => absurd (show 0 ≤ (st : Int) ∧ (st : Int) ≤ (l.sts.length : Int) - 1 by omega) z, fun _ => sz_ok n0 n6 ⟨fun HB sB no => ?_, fun x3 HB sB o le least => ?_⟩⟩
        · refine few_if (i := 10) rfl (sB _ _ eLA) (fun _ H' s' => ⟨rfl, _, rfl, if_no rfl (key _ _ ⟨rfl, sB.trans s'⟩)⟩) (fun ne H' s' => ?_)
          obtain ⟨y, hy⟩ := List.exists_mem_of_ne_nil _ ne
          obtain ⟨h1, h2⟩ := (fL.1 y).mp hy
          exact (no y h1 (of_decide_eq_true h2)).elim
        · have hx3 := (fL.1 x3).mpr ⟨o, decide_eq_true le⟩
          refine few_if (i := 10) rfl (sB _ _ eLA) (fun e H' s' => ?_) (fun ne H' s' => ?_)
          · rw [e] at hx3
            cases hx3
          · cases hxs : OL.filter fun (y : Nat) => decide (num ≤ (y : Int)) with
            | nil => exact absurd hxs ne
            | cons x0 rr =>
              have h0 := (fL.1 x0).mp (by rw [hxs]; exact List.mem_cons_self)
              have e1 := least x0 h0.1 (of_decide_eq_true h0.2)
              have e2 := list_head fL.2 hxs x3 hx3
              obtain rfl : x3 = x0 := by omega
              have eL2 := s' _ _ (sB _ _ eLA)
              rw [hxs] at eL2
              exact ⟨_, rfl, LT, _, _, _, rfl, rfl, SqL.of eL2, at0, rfl, _, rfl, if_no (by rw [decide_eq_true rfl]; rfl) (key _ _ ⟨rfl, sB.trans s'⟩)⟩
      rintro σ HC ⟨rfl, sC⟩
      have eEC := sC _ _ eET
      refine ⟨_, rfl, _, rfl, _, rfl, _, rfl, _, rfl, v, ls, .int n, num, (a : Int), .int (st : Int), rfl, PA sC, l6, ok, fun z => absurd (show 0 ≤ (a : Int) ∧ (a : Int) ≤ (ls.length : Int) - 1 by omega) z, fun j2 l2 ej hl2 => ?_⟩
      obtain rfl : a = j2 := by omega
      rw [hl] at hl2
      cases hl2
      refine .inr ⟨_, rfl, fun z => absurd (show 0 ≤ (st : Int) ∧ (st : Int) ≤ (l.sts.length : Int) - 1 by omega) z, fun _ => sz_ok n0 n6 ⟨fun HB sB no => ?_, fun x3 HB sB o le least => ?_⟩⟩
      · refine few_if (i := 11) rfl (sB _ _ eEC) (fun _ H' s' => ⟨rfl, _, rfl, if_no rfl ⟨_, _, _, _, _, rfl, s8.trans (s9.trans (sA.trans (sC.trans (sB.trans s'))))⟩⟩) (fun ne H' s' => ?_)
        obtain ⟨y, hy⟩ := List.exists_mem_of_ne_nil _ ne
        obtain ⟨h1, h2⟩ := (fE.1 y).mp hy
        exact (no y h1 (of_decide_eq_true h2)).elim
      · have hx3 := (fE.1 x3).mpr ⟨o, decide_eq_true le⟩
        refine few_if (i := 11) rfl (sB _ _ eEC) (fun e H' s' => ?_) (fun ne H' s' => ?_)
        · rw [e] at hx3
          cases hx3
        · obtain ⟨rr, x0, hxs⟩ : ∃ rr x0, (OL.filter fun (y : Nat) => decide ((y : Int) < num)) = rr ++ [x0] := ⟨_, _, (List.dropLast_concat_getLast ne).symm⟩
          have h0 := (fE.1 x0).mp (by rw [hxs]; exact List.mem_append_right _ (List.mem_singleton.mpr rfl))
          have e1 := least x0 h0.1 (of_decide_eq_true h0.2)
          have e2 := list_last fE.2 hxs x3 hx3
          obtain rfl : x3 = x0 := by omega
          have eL2 := s' _ _ (sB _ _ eEC)
          rw [hxs, List.map_append] at eL2
          exact ⟨_, rfl, _, rfl, ET, _, _, _, rfl, rfl, SqL.of eL2, atI_last, rfl, _, rfl, if_no (by rw [decide_eq_true rfl]; rfl) ⟨_, _, _, _, _, rfl, s8.trans (s9.trans (sA.trans (sC.trans (sB.trans s'))))⟩⟩
    rintro σ H8 ⟨v8, v9, v10, v11, v12, rfl, s8⟩
    exact k H8 ((hpN.same s8).mono (by omega)) (k7N.trans (Keep.of s8))
end
end K35
set_option maxHeartbeats 4000000
namespace K35
open PySem PySem.Spec PyProof.Rows L2 Z
def spLaw (K : PySem.W.Frag) (TS : List (Addr × Str)) : Sp := fun vs H Q _ => ∃ (a : Addr) (ns : List Int), vs = [.ref a] ∧ SqL K H a (ns.map V.int) ∧ ns.length ≤ 63 ∧ LamX.Tabs TS H ∧ ∀ H', Q (.bl true) H'
section
variable {P : Program} {w : World} {K : PySem.W.Frag} {mg : Str → Option Value} {base : Heap}
theorem sc_law : FnScope ["_law_script", "_law_pen", "_law_most", "_law_many_here", "_law_rows", "_law_at", "_law_program_here", "_law_lap", "_law_odd"] ["_law_script"] (defScope s_law) := ⟨rfl, rfl, rfl, by decide +kernel, rfl, by decide +kernel, by decide +kernel⟩
theorem ok_law {f c TT : Addr} {fd : FuncData} {TS : List (Addr × Str)} (F : FnP K "law" s_law f fd) (hcode : fd.code = .ref c) (M : MkL base mg TS "law.<locals>.<lambda>" c TT) (RD : RefDef K mg) (R : RfTx K mg) (T : LwTx K mg) (dPen : Dn P w K mg base 1 "_law_pen_of" ["_law_script"] (spPen K)) (dDraw : Dn P w K mg base 1 "_law_draw" ["_law_pen", "_law_many_here"] spDraw)
    (dLRow : Dn P w K mg base 5 "_law_loop_row" ["_law_pen", "_law_most", "_law_statements", "_law_tests"] spLRow) (dLProg : Dn P w K mg base 12 "_law_program" ["_law_rows"] (spLProg K))
    (dSmallR : Dn P w K mg base 9 "_law_small_right" ["_law_pen", "_law_program_here", "_law_rows"] (spSmallR K)) (dFarR : Dn P w K mg base 10 "_law_far_right" ["_law_pen", "_law_program_here", "_law_rows"] (spFarR K))
    (dNW : Dx P w K mg base 8 "next_work" ["program", "n", "number", "loop", "statement"] (spNW K)) (dLW : Dx P w K mg base 8 "last_work" ["program", "n", "number", "loop", "statement"] (spLW K)) :
    FnOk P w K mg base CX0 13 f fd ["_law_script"] (spLaw K TS) := by
  refine okC F hcode sc_law (fun vs H Q E h => ?_) (fun A outer s H vs Q E hr h => ?_)
  · obtain ⟨a, ns, rfl, _⟩ := h
    rfl
  · obtain ⟨a, ns, rfl, hS, hl, tabs, k⟩ := h
    obtain ⟨g, oc, od, dV, kV, doc, pm, an, cdv, ct, osl, Rm, Rk, Rl, Rc, Rb⟩ := RD
    have TB := M.tb
    have hmT := M.mem
    have hu := M.uni
    refine ⟨_, PSs.nox (pss_cons (ps_set (i := 1) sc_law.nd rfl (Or.inr rfl) (pe_dn dPen hr (pa_cons (pv 0) pa_nil)))
      (pss_cons (ps_asg (pe_tup (pa_cons (pe_ix (ix_tupK (K := K) rfl) (pe_tup (pa_cons pe_int (pa_cons pe_int pa_nil))) (pe_dn dDraw hr (pa_cons (pv 1) (pa_cons pe_int pa_nil))) (fun _ _ => rfl)) (pa_cons (pe_op op_add pe_int (pe_dn dDraw hr (pa_cons (pv 1) (pa_cons pe_int pa_nil)))) pa_nil))) (pg_tup (by rfl) (pgs_cons (pg_name (i := 2) sc_law.nd rfl (.inr rfl)) (pgs_cons (pg_name (i := 3) sc_law.nd rfl (.inl rfl)) pgs_nil))))
      (pss_cons (ps_setLc (i := 4) (own := [("_law_at", 5)]) (g := gName 5) (tt := tYes) rfl sc_law.nd rfl rfl (sw_true rfl rfl rfl (by decide +kernel)) (pi_range1 (by rfl) T.range (pa_cons (pv 3) pa_nil)) (blkOk_by (N := ["_law_script", "_law_pen", "_law_most", "_law_many_here", "_law_rows", "_law_at", "_law_program_here", "_law_lap", "_law_odd"]) (sc := defScope s_law) (by decide +kernel)) (fun _ _ _ _ _ => (pg_name (i := 5) sc_law.nd rfl (.inl rfl))) (fun _ _ _ _ _ => pts_nil) (fun _ _ _ _ _ => (pe_dn dLRow hr (pa_cons (pv 1) (pa_cons (pv 2) (pa_cons pe_int (pa_cons pe_int pa_nil)))))))
      (pss_cons (ps_set (i := 6) sc_law.nd rfl (Or.inr rfl) (pe_dn dLProg hr (pa_cons (pv 4) pa_nil)))
      (pss_cons (ps_if (pt_not (pt_val (pe_dn dSmallR hr (pa_cons (pv 1) (pa_cons (pv 6) (pa_cons (pv 4) pa_nil)))))) (pss_one (ps_ret pe_bl)) pss_nil)
      (pss_cons (ps_for PassesOwn.never rfl (pi_range1 (by rfl) T.range (pa_cons pe_int pa_nil)) (pg_name (i := 7) sc_law.nd rfl (.inl rfl)) (pss_one (ps_if (pt_not (pt_val (pe_dn dFarR hr (pa_cons (pv 1) (pa_cons (pv 6) (pa_cons (pv 4) pa_nil)))))) (pss_one (ps_ret pe_bl)) pss_nil)))
      (pss_cons (ps_set (i := 8) sc_law.nd rfl (Or.inr rfl) (pe_ix (ix_tupK (K := K) rfl) (pe_tup (pa_cons (pe_un un_neg pe_int) (pa_cons (pe_callB (call_len_seqK (K := K) rfl) (by rfl) T.len PySem.boot_len (pa_cons (pe_ix (ix_tupK (K := K) rfl) (pe_ix ix_list (pv 4) pe_int (fun _ _ => rfl)) pe_int (fun _ _ => rfl)) pa_nil)) (pa_cons pe_str (pa_cons pe_non pa_nil))))) (pe_dn dDraw hr (pa_cons (pv 1) (pa_cons pe_int pa_nil))) (fun _ _ => rfl)))
      (pss_cons (ps_if (pt_cmpR (op_neD hr.units) (LamX.pe_lamcall (T := TS) (TT := TTref K) (a := "_law_action") (k := 8) rfl Rm Rk Rl Rc Rb sc_law_refused rfl (.inl rfl) (ref_gives R) TB rfl hmT hu (hr.mono (by decide)) (LamX.lamS_by (sc := defScope s_law) (by decide +kernel)) rfl (fun _ _ _ _ _ => rfl) (fun _ _ _ _ _ _ _ hr2 => (pe_dx (K := K) dNW rfl hr2 (fun σ => passAt (takes_of rfl rfl rfl rfl) σ) (pa_cons (pv 6) (pa_cons (pe_un un_neg pe_int) (pa_cons pe_int (pa_cons pe_int (pa_cons (pv 8) pa_nil)))))))) (pe_tup (pa_cons pe_str (pa_cons pe_int (pa_cons (pv 8) pa_nil)))) (nomark _)) (pss_one (ps_ret pe_bl)) pss_nil)
      (pss_cons (ps_if (pt_cmpR (op_neD hr.units) (LamX.pe_lamcall (T := TS) (TT := TTref K) (a := "_law_action") (k := 8) rfl Rm Rk Rl Rc Rb sc_law_refused rfl (.inl rfl) (ref_gives R) TB rfl hmT hu (hr.mono (by decide)) (LamX.lamS_by (sc := defScope s_law) (by decide +kernel)) rfl (fun _ _ _ _ _ => rfl) (fun _ _ _ _ _ _ _ hr2 => (pe_dx (K := K) dLW rfl hr2 (fun σ => passAt (takes_of rfl rfl rfl rfl) σ) (pa_cons (pv 6) (pa_cons (pe_un un_neg pe_int) (pa_cons pe_int (pa_cons pe_int (pa_cons pe_int pa_nil)))))))) (pe_tup (pa_cons pe_str (pa_cons (pe_un un_neg pe_int) pa_nil))) (nomark _)) (pss_one (ps_ret pe_bl)) pss_nil)
      (pss_one (ps_ret (pe_cmpR (op_eqD hr.units) (LamX.pe_lamcall (T := TS) (TT := TTref K) (a := "_law_action") (k := 8) rfl Rm Rk Rl Rc Rb sc_law_refused rfl (.inl rfl) (ref_gives R) TB rfl hmT hu (hr.mono (by decide)) (LamX.lamS_by (sc := defScope s_law) (by decide +kernel)) rfl (fun _ _ _ _ _ => rfl) (fun _ _ _ _ _ _ _ hr2 => (pe_dx (K := K) dLW rfl hr2 (fun σ => passAt (takes_of rfl rfl rfl rfl) σ) (pa_cons (pv 6) (pa_cons pe_int (pa_cons pe_int (pa_cons pe_int (pa_cons (pv 8) pa_nil)))))))) (pe_tup (pa_cons pe_str (pa_cons pe_int (pa_cons (pv 8) pa_nil)))) (nomark _))))))))))))), ?_⟩
    refine ⟨_, rfl, a, ns, rfl, hS, hl, fun H1 p pc s1 hp0 hp1 => ?_⟩
    refine normG (σ' := [some (.ref a), some (.ref p), none, none, none, none, none, none, none]) rfl ?_
    try dsimp only
    have tabs1 : LamX.Tabs TS H1 := tabs.ext fun b o e => s1 _ _ e
    refine ⟨sz2, fun u hu => ?_⟩
    have s2 := Same.new (.tup [.int 9, .int 600]) (Same.refl H1) hu
    have hu2 : (upd H1 u (.tup [.int 9, .int 600])) u = some (.tup [.int 9, .int 600]) := upd_same
    have hp2 := hp1.same s2
    refine ⟨_, rfl, p, pc, 2, 0, rfl, by decide, by decide, by decide, hp2, fun H3 d d0 d1 hp3 k3 => ?_⟩
    have hu3 := k3 _ _ (hp2.ne hu2 fun _ z => by cases z) hu2
    obtain ⟨j, rfl⟩ : ∃ j : Nat, d = (j : Int) := ⟨d.toNat, by omega⟩
    obtain ⟨m, hm, m0, m1⟩ : ∃ m : Int, ([.int 9, .int 600] : List V)[j]? = some (.int m) ∧ 0 ≤ m ∧ m ≤ 600 := by
      match j, d1 with
      | 0, _ => exact ⟨_, rfl, by decide, by decide⟩
      | 1, _ => exact ⟨_, rfl, by decide, by decide⟩
      | j + 2, d1 => exact absurd d1 (by omega)
    refine ⟨u, _, _, _, rfl, rfl, SqT.of hu3, atI_nat hm, ?_⟩
    refine ⟨_, rfl, p, pc, 3, 1, rfl, by decide, by decide, by decide, hp3, fun H4 e e0 e1 hp4 k4 => ⟨_, _, rfl, rfl, ?_⟩⟩
    obtain ⟨b, hb⟩ : ∃ b : Nat, 1 + e = (b : Int) := ⟨(1 + e).toNat, by omega⟩
    try dsimp only
    rw [hb]
    refine ⟨sz2, fun u2 hu2' => ?_⟩
    have s5 := Same.new (.tup [.int m, .int (b : Int)]) (Same.refl H4) hu2'
    refine ⟨u2, _, rfl, SqT.of upd_same, rfl, _, _, rfl, _, _, rfl, rfl, ?_⟩
    refine norm (N := fun σ _ => _) (σ' := [some (.ref a), some (.ref p), some (.int m), some (.int (b : Int)), none, none, none, none, none]) rfl ?_
    try dsimp only
    have tabs5 : LamX.Tabs TS (upd H4 u2 (.tup [.int m, .int (b : Int)])) := (tabs_keep (tabs1.ext fun b o e => s2 _ _ e) hp2 (k3.trans k4)).ext fun b o e => s5 _ _ e
    have hp5 := hp4.same s5
    obtain ⟨H5, eH5⟩ : ∃ X, X = upd H4 u2 (.tup [.int m, .int (b : Int)]) := ⟨_, rfl⟩
    rw [← eH5] at tabs5 hp5 ⊢
    refine ⟨_, rfl, (b : Int), rfl, by omega, by omega, ?_⟩
    rw [Int.toNat_natCast]
    intro R hR
    have sR := Same.new (.lst []) (Same.refl H5) hR
    have fR := hp5.free hR
    refine lc_range (lo := 0) (n := b) (fun i Hc => ∃ (xs : List V) (ls : List LpM), Hc R = some (.lst xs) ∧ DLs (fun b => b ≠ R) Hc xs (ls.map lpR) ∧ ls.length = i ∧ (∀ l ∈ ls, LpOk l) ∧ (∀ l ∈ ls, 1 ≤ l.sts.length) ∧ PenC Hc p pc (2 + 200 * i) ∧ LamX.Tabs TS Hc) ⟨[], [], upd_same, .nil, rfl, (fun _ z => by cases z), (fun _ z => by cases z), hp5.same sR, tabs5.ext fun b o e => sR _ _ e⟩ ?_ ?_
    · rintro i Hc hi ⟨xs, ls, eR, dx, ll, ok, fu, hpc, tbc⟩
      have lxs : xs.length = i := by rw [dx.len, List.length_map, ll]
      refine ⟨rfl, yes_of ?_⟩
      refine ⟨_, rfl, _, rfl, p, pc, m, 3, 2, 2 + 200 * i, rfl, m0, m1, by decide, by decide, by decide, by decide, by omega, hpc, fun Hd v l okl l1 dl hpd kd => ?_⟩
      have eRd := kd _ _ (hpc.ne eR fun _ z => by cases z) eR
      have dl' : DL (fun b => b ≠ R) Hd v (lpR l) := dl.imp fun b hb z => by
        have hb : Hc b = none := hb
        rw [z, eR] at hb
        cases hb
      refine ⟨xs, eRd, sz1m _ (by omega), xs ++ [v], ls ++ [l], upd_same, ?_, by rw [List.length_append, ll]; rfl, fun l' hl' => ?_, fun l' hl' => ?_, hpd.upd fR.1 fR.2 (by omega), tabs_upd (tabs_keep tbc hpc kd) eRd⟩
      · exact DLs.snoc ((dx.to (LS.pen hpc kd)).to (.updL eRd fun z => z rfl)) (dl'.to (.updL eRd fun z => z rfl))
      · rcases List.mem_append.mp hl' with z | z
        · exact ok _ z
        · rw [List.mem_singleton.mp z]
          exact okl
      · rcases List.mem_append.mp hl' with z | z
        · exact fu _ z
        · rw [List.mem_singleton.mp z]
          exact l1
    rintro H6 ⟨xs, ls, eR, dx, ll, ok, fu, hp6, tb6⟩
    refine normG (σ' := [some (.ref a), some (.ref p), some (.int m), some (.int (b : Int)), some (.ref R), none, none, none, none]) rfl ?_
    try dsimp only
    have lxs : xs.length = ls.length := by rw [dx.len, List.length_map]
    refine ⟨_, rfl, _, R, xs, ls, rfl, eR, dx, by omega, ok, fun v H7 s7 hP7 => ?_⟩
    refine normG (σ' := [some (.ref a), some (.ref p), some (.int m), some (.int (b : Int)), some (.ref R), none, some v, none, none]) rfl ?_
    try dsimp only
    have hp7 := hp6.same s7
    have eR7 := s7 _ _ eR
    have dx7 := dx.to (.of s7)
    have tb7 : LamX.Tabs TS H7 := tb6.ext fun b o e => s7 _ _ e
    have nR : R ≠ p := hp7.ne eR7 fun _ z => by cases z
    refine ⟨_, rfl, _, rfl, _, rfl, _, p, pc, v, R, xs, ls, _, rfl, hP7, eR7, dx7, by omega, ok, by omega, fu, by omega, hp7, fun H8 hp8 k8 => ⟨_, rfl, if_no rfl ?_⟩⟩
    refine un_next ?_
    try dsimp only
    have tb8 := tabs_keep tb7 hp7 k8
    refine ⟨3, rfl, by decide, by decide, ?_⟩
    refine for_range (lo := 0) (n := 3) (fun i σ H' => ∃ v7 : Option V, σ = [some (.ref a), some (.ref p), some (.int m), some (.int (b : Int)), some (.ref R), none, some v, v7, none] ∧ PenC H' p pc (1000 + 50 * i) ∧ Keep p H7 H' ∧ LamX.Tabs TS H') ⟨_, rfl, hp8.mono (by omega), k8, tb8⟩ ?_ ?_
    · rintro i σ H1 hi ⟨v7, rfl, hp1, k1, tb1⟩
      refine normG (σ' := [some (.ref a), some (.ref p), some (.int m), some (.int (b : Int)), some (.ref R), none, some v, some (.int (0 + (i : Int))), none]) rfl ?_
      refine ⟨_, rfl, _, rfl, _, rfl, _, p, pc, v, R, xs, ls, _, rfl, hP7.ms (hp7.ms (KeepN.of k1)), k1 _ _ nR eR7, dx7.to (LS.pen hp7 k1), by omega, ok, by omega, fu, by omega, hp1, fun H2 hp2 k2 => ⟨_, rfl, if_no rfl ?_⟩⟩
      exact ⟨_, rfl, hp2.mono (by omega), k1.trans k2, tabs_keep tb1 hp1 k2⟩
    rintro σ H9 ⟨v7, rfl, hp9, k9, tb9⟩
    have eR9 := k9 _ _ nR eR7
    obtain ⟨l, hl⟩ : ∃ l, ls[0]? = some l := ⟨_, List.getElem?_eq_getElem (by omega)⟩
    have sl := fu l (List.mem_of_getElem? hl)
    have n3 := (lpOk_st (ok l (List.mem_of_getElem? hl))).1
    obtain ⟨vl, hvl, dl0⟩ := DLs.get 0 _ (dx7.to (LS.pen hp7 k9)) (by rw [List.getElem?_map, hl]; rfl)
    obtain ⟨tl, q1, q2, ts, ys, rfl, htl, _, _, hts, dst⟩ := dl_lp dl0
    have lys : ys.length = l.sts.length := by rw [dst.len, List.length_map]
    refine ⟨_, rfl, _, rfl, R, _, _, _, rfl, rfl, SqL.of eR9, atI_nat (j := 0) hvl, tl, _, _, _, rfl, rfl, SqT.of htl, at4, ts, ys, rfl, .inl (SqL.of hts), sz4, fun u3 hu3 => ?_⟩
    have s9 := Same.new (.tup [.int (-1), .int (ys.length : Int), .str "0", .non]) (Same.refl H9) hu3
    have hu9 : (upd H9 u3 (.tup [.int (-1), .int (ys.length : Int), .str "0", .non])) u3 = some (.tup [.int (-1), .int (ys.length : Int), .str "0", .non]) := upd_same
    have hpa := hp9.same s9
    refine ⟨_, rfl, p, pc, 4, _, rfl, by decide, by decide, by omega, hpa, fun Hb db db0 db1 hpb kb => ?_⟩
    have hub := kb _ _ (hpa.ne hu9 fun _ z => by cases z) hu9
    obtain ⟨jb, rfl⟩ : ∃ j : Nat, db = (j : Int) := ⟨db.toNat, by omega⟩
    obtain ⟨sv, sd, hsv, hsd⟩ : ∃ (sv : V) (sd : PyData), ([.int (-1), .int (ys.length : Int), .str "0", .non] : List V)[jb]? = some sv ∧ (sv = .int (-1) ∧ sd = .int (-1) ∨ sv = .int (ys.length : Int) ∧ sd = .int (ys.length : Int) ∨ sv = .str "0" ∧ sd = .str "0" ∨ sv = .non ∧ sd = .none) := by
      match jb, db1 with
      | 0, _ => exact ⟨_, _, rfl, .inl ⟨rfl, rfl⟩⟩
      | 1, _ => exact ⟨_, _, rfl, .inr (.inl ⟨rfl, rfl⟩)⟩
      | 2, _ => exact ⟨_, _, rfl, .inr (.inr (.inl ⟨rfl, rfl⟩))⟩
      | 3, _ => exact ⟨_, _, rfl, .inr (.inr (.inr ⟨rfl, rfl⟩))⟩
      | j + 4, db1 => exact absurd db1 (by omega)
    have tbb : LamX.Tabs TS Hb := tabs_keep (tb9.ext fun b o e => s9 _ _ e) hpa kb
    have kB : Keep p H7 Hb := k9.trans ((Keep.of s9).trans kb)
    have POb : ∀ {Hx : Hp}, LamX.ExtN Hb Hx → PrOb K Hx v ls := fun e => hP7.ms (hp7.ms ((KeepN.of kB).trans (KeepN.ext e)))
    refine ⟨u3, _, _, _, rfl, rfl, SqT.of hub, atI_nat hsv, ?_⟩
    refine normG (σ' := [some (.ref a), some (.ref p), some (.int m), some (.int (b : Int)), some (.ref R), none, some v, v7, some sv]) rfl ?_
    try dsimp only
    have lay1 : ∀ i : Int, ∀ d ∈ [PyData.int i], Lay 0 d := fun i d hd => by
      rw [List.mem_singleton.mp hd]
      exact lay_int _
    have cst : ∀ (Hx : Hp) (E : XK) (nv : V) (R : VK), LamX.ExtN Hb Hx → RzV K "NoStatement" ["loop", "statement"] [.int 0, sv] Hx E → spNW K [v, nv, .int 0, .int 0, sv] Hx R E := fun Hx E nv R e rz => by
      refine ⟨v, ls, nv, _, _, sv, rfl, POb e, by omega, ok, fun z => absurd (show (0 : Int) ≤ 0 ∧ (0 : Int) ≤ (ls.length : Int) - 1 by omega) z, fun j l' ej hl' => ?_⟩
      obtain rfl : 0 = j := by omega
      rw [hl] at hl'
      cases hl'
      rcases hsd with ⟨rfl, _⟩ | ⟨rfl, _⟩ | ⟨rfl, _⟩ | ⟨rfl, _⟩
      · exact .inr ⟨_, rfl, fun _ => rz, fun z => absurd z.1 (by decide)⟩
      · exact .inr ⟨_, rfl, fun _ => rz, fun z => absurd z.2 (by omega)⟩
      · exact .inl ⟨.str _, rz⟩
      · exact .inl ⟨.non, rz⟩
    have clt : ∀ (Hx : Hp) (E : XK) (nv : V) (R : VK), LamX.ExtN Hb Hx → RzV K "NoStatement" ["loop", "statement"] [.int 0, sv] Hx E → spLW K [v, nv, .int 0, .int 0, sv] Hx R E := fun Hx E nv R e rz => by
      refine ⟨v, ls, nv, _, _, sv, rfl, POb e, by omega, ok, fun z => absurd (show (0 : Int) ≤ 0 ∧ (0 : Int) ≤ (ls.length : Int) - 1 by omega) z, fun j l' ej hl' => ?_⟩
      obtain rfl : 0 = j := by omega
      rw [hl] at hl'
      cases hl'
      rcases hsd with ⟨rfl, _⟩ | ⟨rfl, _⟩ | ⟨rfl, _⟩ | ⟨rfl, _⟩
      · exact .inr ⟨_, rfl, fun _ => rz, fun z => absurd z.1 (by decide)⟩
      · exact .inr ⟨_, rfl, fun _ => rz, fun z => absurd z.2 (by omega)⟩
      · exact .inl ⟨.str _, rz⟩
      · exact .inl ⟨.non, rz⟩
    have dvs : ∀ Hx, DTs Hx [.int 0, sv] [.int 0, sd] := fun Hx => by
      rcases hsd with ⟨rfl, rfl⟩ | ⟨rfl, rfl⟩ | ⟨rfl, rfl⟩ | ⟨rfl, rfl⟩
      · exact .cons (.int _) (.cons (.int _) .nil)
      · exact .cons (.int _) (.cons (.int _) .nil)
      · exact .cons (.int _) (.cons (.str _) .nil)
      · exact .cons (.int _) (.cons .non .nil)
    have shs : SeqAt.shaped (.tuple (.str "NoStatement" :: [.int 0, sd])) = true := sh_err (by decide +kernel) fun d hd => by
      simp only [List.mem_cons, List.not_mem_nil, or_false] at hd
      rcases hd with rfl | rfl
      · exact lay_int _
      · rcases hsd with ⟨_, rfl⟩ | ⟨_, rfl⟩ | ⟨_, rfl⟩ | ⟨_, rfl⟩
        · exact lay_int _
        · exact lay_int _
        · exact lay_str (by decide +kernel)
        · exact lay_non
    refine refuse_ne (x := "NoStatement") (fs := ["loop", "statement"]) (vs := [.int 0, sv]) (ds := [.int 0, sd]) tbb (fun Hn Rn En en rz => ?_) (by simp) rfl (fun Hm Rm em key => ⟨_, rfl, sz3, key⟩) (dvs _) shs fun Hc ec tbc => if_no rfl ?_
    · exact ⟨_, rfl, _, rfl, _, rfl, cst _ _ _ _ en rz⟩
    refine un_next ?_
    try dsimp only
    refine refuse_ne (x := "BadSize") (fs := ["n"]) (vs := [.int (-1)]) (ds := [.int (-1)]) tbc (fun Hn Rn En en rz => ?_) (by simp) rfl (fun Hm Rm em key => ⟨_, rfl, sz2, key⟩) (.cons (.int _) .nil) (sh_err (by decide +kernel) (lay1 _)) fun Hd ed tbd => if_no rfl ?_
    · refine ⟨_, rfl, _, rfl, v, ls, .int (-1), _, _, .int 0, rfl, POb (ec.trans en), by omega, ok, fun z => absurd (show (0 : Int) ≤ 0 ∧ (0 : Int) ≤ (ls.length : Int) - 1 by omega) z, fun j l' ej hl' => ?_⟩
      obtain rfl : 0 = j := by omega
      rw [hl] at hl'
      cases hl'
      exact .inr ⟨_, rfl, fun z => absurd (show (0 : Int) ≤ 0 ∧ (0 : Int) ≤ (l.sts.length : Int) - 1 by omega) z, fun _ => .inr ⟨_, rfl, fun _ => rz, fun z => absurd z (by decide)⟩⟩
    refine un_next ?_
    try dsimp only
    have ecd := ec.trans ed
    refine refuse_eq (x := "NoStatement") (fs := ["loop", "statement"]) (vs := [.int 0, sv]) (ds := [.int 0, sd]) tbd (fun Hn Rn En en rz => ?_) (by simp) rfl (fun Hm Rm em key => ⟨_, rfl, sz3, key⟩) (dvs _) shs k
    exact ⟨_, rfl, _, rfl, clt _ _ _ _ (ecd.trans en) rz⟩
end
end K35
set_option maxHeartbeats 0
namespace K35
open PySem PySem.Spec PyProof.Rows L2 Z
section
variable {P : Program} {w : World} {K : PySem.W.Frag} {mg : Str → Option Value} {base : Heap}
theorem scTooMany__init__ : FnScope ["self", "what", "many", "limit"] ["self", "what", "many", "limit"] (defScope iTooMany__init__) := ⟨rfl, rfl, rfl, by decide +kernel, rfl, by decide +kernel, by decide +kernel⟩
theorem mxTooMany {fd : FuncData} (T : EC K mg "TooMany" ["what", "many", "limit"]) (F : FnM K "TooMany" "__init__" "TooMany.__init__" iTooMany__init__ fd) : Mx P w K mg base "TooMany" ["self", "what", "many", "limit"] ["what", "many", "limit"] := by
  refine ⟨T, fd, ?_, F.bindsN fun _ _ _ _ _ _ us hl => match us, hl with | [_, _, _, _], _ => rfl⟩
  refine F.ok scTooMany__init__ (fun vs H Q E h => ?_) (fun cdv A outer s H vs Q E hr h => ⟨_, PSs.nox (pss_cons (ps_ost (pv 0) (pv 1)) (pss_cons (ps_ost (pv 0) (pv 2)) (pss_one (ps_ost (pv 0) (pv 3))))), rd_err3 T h⟩)
  obtain ⟨a, ws, rfl, e, _⟩ := h
  rw [List.length_cons, e]
  rfl
theorem scBadName__init__ : FnScope ["self", "name"] ["self", "name"] (defScope iBadName__init__) := ⟨rfl, rfl, rfl, by decide +kernel, rfl, by decide +kernel, by decide +kernel⟩
theorem mxBadName {fd : FuncData} (T : EC K mg "BadName" ["name"]) (F : FnM K "BadName" "__init__" "BadName.__init__" iBadName__init__ fd) : Mx P w K mg base "BadName" ["self", "name"] ["name"] := by
  refine ⟨T, fd, ?_, F.bindsN fun _ _ _ _ _ _ us hl => match us, hl with | [_, _], _ => rfl⟩
  refine F.ok scBadName__init__ (fun vs H Q E h => ?_) (fun cdv A outer s H vs Q E hr h => ⟨_, PSs.nox (pss_one (ps_ost (pv 0) (pv 1))), rd_err1 T h⟩)
  obtain ⟨a, ws, rfl, e, _⟩ := h
  rw [List.length_cons, e]
  rfl
theorem scBadSize__init__ : FnScope ["self", "n"] ["self", "n"] (defScope iBadSize__init__) := ⟨rfl, rfl, rfl, by decide +kernel, rfl, by decide +kernel, by decide +kernel⟩
theorem mxBadSize {fd : FuncData} (T : EC K mg "BadSize" ["n"]) (F : FnM K "BadSize" "__init__" "BadSize.__init__" iBadSize__init__ fd) : Mx P w K mg base "BadSize" ["self", "n"] ["n"] := by
  refine ⟨T, fd, ?_, F.bindsN fun _ _ _ _ _ _ us hl => match us, hl with | [_, _], _ => rfl⟩
  refine F.ok scBadSize__init__ (fun vs H Q E h => ?_) (fun cdv A outer s H vs Q E hr h => ⟨_, PSs.nox (pss_one (ps_ost (pv 0) (pv 1))), rd_err1 T h⟩)
  obtain ⟨a, ws, rfl, e, _⟩ := h
  rw [List.length_cons, e]
  rfl
theorem scNoLoop__init__ : FnScope ["self", "loop"] ["self", "loop"] (defScope iNoLoop__init__) := ⟨rfl, rfl, rfl, by decide +kernel, rfl, by decide +kernel, by decide +kernel⟩
theorem mxNoLoop {fd : FuncData} (T : EC K mg "NoLoop" ["loop"]) (F : FnM K "NoLoop" "__init__" "NoLoop.__init__" iNoLoop__init__ fd) : Mx P w K mg base "NoLoop" ["self", "loop"] ["loop"] := by
  refine ⟨T, fd, ?_, F.bindsN fun _ _ _ _ _ _ us hl => match us, hl with | [_, _], _ => rfl⟩
  refine F.ok scNoLoop__init__ (fun vs H Q E h => ?_) (fun cdv A outer s H vs Q E hr h => ⟨_, PSs.nox (pss_one (ps_ost (pv 0) (pv 1))), rd_err1 T h⟩)
  obtain ⟨a, ws, rfl, e, _⟩ := h
  rw [List.length_cons, e]
  rfl
theorem scNoStatement__init__ : FnScope ["self", "loop", "statement"] ["self", "loop", "statement"] (defScope iNoStatement__init__) := ⟨rfl, rfl, rfl, by decide +kernel, rfl, by decide +kernel, by decide +kernel⟩
theorem mxNoStatement {fd : FuncData} (T : EC K mg "NoStatement" ["loop", "statement"]) (F : FnM K "NoStatement" "__init__" "NoStatement.__init__" iNoStatement__init__ fd) : Mx P w K mg base "NoStatement" ["self", "loop", "statement"] ["loop", "statement"] := by
  refine ⟨T, fd, ?_, F.bindsN fun _ _ _ _ _ _ us hl => match us, hl with | [_, _, _], _ => rfl⟩
  refine F.ok scNoStatement__init__ (fun vs H Q E h => ?_) (fun cdv A outer s H vs Q E hr h => ⟨_, PSs.nox (pss_cons (ps_ost (pv 0) (pv 1)) (pss_one (ps_ost (pv 0) (pv 2)))), rd_err2 T h⟩)
  obtain ⟨a, ws, rfl, e, _⟩ := h
  rw [List.length_cons, e]
  rfl
theorem scNoNumber__init__ : FnScope ["self", "number"] ["self", "number"] (defScope iNoNumber__init__) := ⟨rfl, rfl, rfl, by decide +kernel, rfl, by decide +kernel, by decide +kernel⟩
theorem mxNoNumber {fd : FuncData} (T : EC K mg "NoNumber" ["number"]) (F : FnM K "NoNumber" "__init__" "NoNumber.__init__" iNoNumber__init__ fd) : Mx P w K mg base "NoNumber" ["self", "number"] ["number"] := by
  refine ⟨T, fd, ?_, F.bindsN fun _ _ _ _ _ _ us hl => match us, hl with | [_, _], _ => rfl⟩
  refine F.ok scNoNumber__init__ (fun vs H Q E h => ?_) (fun cdv A outer s H vs Q E hr h => ⟨_, PSs.nox (pss_one (ps_ost (pv 0) (pv 1))), rd_err1 T h⟩)
  obtain ⟨a, ws, rfl, e, _⟩ := h
  rw [List.length_cons, e]
  rfl
theorem scNoWork__init__ : FnScope ["self", "work"] ["self", "work"] (defScope iNoWork__init__) := ⟨rfl, rfl, rfl, by decide +kernel, rfl, by decide +kernel, by decide +kernel⟩
theorem mxNoWork {fd : FuncData} (T : EC K mg "NoWork" ["work"]) (F : FnM K "NoWork" "__init__" "NoWork.__init__" iNoWork__init__ fd) : Mx P w K mg base "NoWork" ["self", "work"] ["work"] := by
  refine ⟨T, fd, ?_, F.bindsN fun _ _ _ _ _ _ us hl => match us, hl with | [_, _], _ => rfl⟩
  refine F.ok scNoWork__init__ (fun vs H Q E h => ?_) (fun cdv A outer s H vs Q E hr h => ⟨_, PSs.nox (pss_one (ps_ost (pv 0) (pv 1))), rd_err1 T h⟩)
  obtain ⟨a, ws, rfl, e, _⟩ := h
  rw [List.length_cons, e]
  rfl
end
theorem inx_of {K : PySem.W.Frag} {C : Addr} (h : insB K C = true) : Inx K C := by
  obtain ⟨h1, h⟩ := He.ba h
  obtain ⟨h2, h⟩ := He.ba h
  obtain ⟨h3, h4⟩ := He.ba h
  exact ⟨He.eqO_ok h1, He.eqO_ok h2, of_decide_eq_true h3, of_decide_eq_true h4⟩
theorem kw_of {K : PySem.W.Frag} {x : Str} (z : (match K.lookup (kwAt x K) with | some ⟨.type c, _, .seq its _, _⟩ => decide (c = "tuple") && decide (its.size = 0) | _ => false) = true) : ∀ H : Hp, SqT K H (kwAt x K) [] := by
  intro H
  cases e : K.lookup (kwAt x K) with
  | none =>
    rw [e] at z
    cases z
  | some ob =>
    rw [e] at z
    obtain ⟨oc, od, dt, osl⟩ := ob
    cases oc with
    | type c =>
      cases dt with
      | seq its n =>
        obtain ⟨z1, z2⟩ := He.ba z
        have z1 : c = "tuple" := of_decide_eq_true z1
        have z2 : its.size = 0 := of_decide_eq_true z2
        subst z1
        have z3 : its = #[] := Array.eq_empty_of_size_eq_zero z2
        subst z3
        exact .inr ⟨_, _, _, e, rfl, rfl, Nat.zero_le _, .nil⟩
      | _ => cases z
    | _ => cases z
theorem fnIn_of {K : PySem.W.Frag} {x q : Str} {a b e d l f fd} (F : FunD K x q a b e d l f fd) : PySem.W.fnIn K f = true := by
  obtain ⟨oc, od, dV, kV, doc, pm, an, cdv, ct, osl, rfl, lk, _⟩ := F.ex
  unfold PySem.W.fnIn
  rw [lk]
theorem code_of {K : PySem.W.Frag} {h : Heap} {mg : Str → Option Value} {x : Str} {st : Stmt} {f c T : Addr} {fd : FuncData} (X : K.In h) (G : h.Ns mainGlobals mg) (F : FnP K x st f fd) (ht : PySem.W.tabIn K x = some (c, T)) (hm : mg x = some (.ref f)) : fd.code = .ref c := by
  obtain ⟨oc, od, dV, kV, doc, pm, an, cdv, ct, osl, e, lk, _⟩ := F.ex
  subst e
  exact PySem.W.law_code X G ht hm (X _ _ lk) rfl
theorem ref_def {K : PySem.W.Frag} {mg : Str → Option Value} {f : Addr} {fd : FuncData} (F : FnP K "_law_refused" s_law_refused f fd) (g : mg "_law_refused" = some (.ref f)) : RefDef K mg := by
  have b := FunD.bindsN (ps := ["_law_action"]) F fun _ _ _ _ _ _ us hl => match us, hl with | [_], _ => rfl
  have kp := F.kp
  obtain ⟨oc, od, dV, kV, doc, pm, an, cdv, ct, osl, e, lk, cd, _⟩ := F.ex
  subst e
  exact ⟨f, oc, od, dV, kV, doc, pm, an, cdv, ct, osl, g, kp, lk, cd, b⟩
abbrev qq : Program := PySem.W.view R.prog [0, 115]
theorem seenR (x : Str) (h : ((recsOf qq).find? fun e => e.name == x).isSome = true) : ∃ d, (recsOf qq).find? (fun e => e.name == x) = some d := Option.isSome_iff_exists.mp h
theorem facts {w : World} {h : Heap} {mg : Str → Option Value} {f : Addr} {P : Program} {K : PySem.W.Frag} (X : K.In h) (Z : ∃ lo mean mb, Top qq lo mean mg mb h) (hfa : mg ("law" : Str) = some (.ref f)) (c : SaysX fa fn K) :
    ∃ (fd : FuncData) (cs : List (Addr × Addr)) (TS : List (Addr × Str)), (∀ p ∈ cs, h.get? p.2 = some { cls := .none, data := .fields #[] }) ∧ (∀ p ∈ cs, K.lookup p.2 = none) ∧ (∀ p ∈ cs, PySem.W.CodeHd h p.1 p.2) ∧ (∀ (s : Shared) (v : Value), BindsTo s fd ⟨[v], []⟩ [("_law_script", v)]) ∧
      (∀ H : Hp, (∀ p ∈ cs, H p.2 = some (.tbl #[])) → LamX.Tabs TS H) ∧ ∀ base : Heap, K.In base → base.Ns mainGlobals mg → (∀ p ∈ cs, LamX.TabB base mg p.1 p.2) → FnOk P w K mg base CX0 13 f fd ["_law_script"] (spLaw K TS) := by
  obtain ⟨_, _, _, Tp⟩ := Z
  have G := Tp.g
  have gl : ∀ x ∈ glos, mg x = some (.ref (He.ga K x)) := fun x hx => He.glo_ok X G (List.all_eq_true.mp (c.fact 0) x hx)
  have fr : ∀ x ∈ frees, mg x = none := fun x hx => He.free_ok X G (List.all_eq_true.mp (c.fact 1) x hx)
  have ow : ∀ x ∈ owns, Cls K (He.ga K x) ∧ Mk K (He.ga K x) (He.ma K (He.ga K x) "__init__") ∧ Inx K (He.ga K x) := fun x hx => by
    obtain ⟨h1, z⟩ := He.ba (List.all_eq_true.mp (c.fact 2) x hx)
    obtain ⟨h2, h3⟩ := He.ba z
    exact ⟨He.cls_ok h1, He.mkr_ok h2, inx_of h3⟩
  have na : ∀ q ∈ atts, NoAttr K (He.ga K q.1) q.2 := fun q hq => He.noat_ok (List.all_eq_true.mp (c.fact 3) q hq)
  have me : ∀ q ∈ mets, Meth K (He.ga K q.1) q.2 (He.ma K (He.ga K q.1) q.2) := fun q hq => He.meth_ok (List.all_eq_true.mp (c.fact 4) q hq)
  have op : ∀ q ∈ oprs, OpI K (He.ga K q.1) q.2 := fun q hq => opiB_ok (List.all_eq_true.mp (c.fact 5) q hq)
  have kt := c.fact 7
  unfold kits at kt
  simp only [Bool.and_eq_true, decide_eq_true_eq] at kt
  obtain ⟨⟨⟨⟨⟨⟨⟨⟨⟨⟨⟨_, kSi⟩, kSS⟩, kSP⟩, kPP⟩, kPS⟩, kiP⟩, kiS⟩, kii0⟩, kib0⟩, kAR⟩, kRR⟩ := kt
  have gcd : mg "gcd" = some (.builtin "math.gcd") := PySem.W.mg_of X G (He.eqO_ok (c.fact 8))
  have xm : ∀ q ∈ ([("NoLoop", "NoLoop", true), ("NoStatement", "NoLoop", false), ("NoStatement", "NoStatement", true), ("BadSize", "NoLoop", false), ("BadSize", "NoStatement", false), ("BadSize", "BadSize", true), ("NoNumber", "NoLoop", false), ("NoNumber", "NoStatement", false), ("NoNumber", "BadSize", false), ("NoNumber", "NoNumber", true), ("NoWork", "NoLoop", false), ("NoWork", "NoStatement", false), ("NoWork", "BadSize", false), ("NoWork", "NoNumber", false), ("NoWork", "NoWork", true)] : List (Str × Str × Bool)), PySem.W.exmOne K (.ref (He.ga K q.1)) (.ref (He.ga K q.2.1)) = some q.2.2 := fun q hq => of_decide_eq_true (List.all_eq_true.mp (c.fact 9) q hq)
  have EE : ∀ q ∈ excs, EC K mg q.1 q.2 := fun q hq => by
    obtain ⟨h1, z⟩ := He.ba (List.all_eq_true.mp (c.fact 6) q hq)
    obtain ⟨h2, z⟩ := He.ba z
    obtain ⟨h3, z⟩ := He.ba z
    obtain ⟨h4, h5⟩ := He.ba z
    exact { gC := gl q.1 ((show ∀ q ∈ excs, q.1 ∈ glos by decide +kernel) q hq), ox := oex_of h2 (exkB_ok h1), ex := exkB_ok h1, iC := He.eqO_ok h3, tI := of_decide_eq_true h4, na := fun x hx => He.eqO_ok (List.all_eq_true.mp h5 x hx) }
  have EB : EC K mg "BadNumber" ["what", "number"] := EE (("BadNumber", ["what", "number"]) : Str × List Str) (by decide +kernel)
  have ET : EC K mg "TooMany" ["what", "many", "limit"] := EE (("TooMany", ["what", "many", "limit"]) : Str × List Str) (by decide +kernel)
  have EA : EC K mg "BadName" ["name"] := EE (("BadName", ["name"]) : Str × List Str) (by decide +kernel)
  have EZ : EC K mg "BadSize" ["n"] := EE (("BadSize", ["n"]) : Str × List Str) (by decide +kernel)
  have EL : EC K mg "NoLoop" ["loop"] := EE (("NoLoop", ["loop"]) : Str × List Str) (by decide +kernel)
  have ES : EC K mg "NoStatement" ["loop", "statement"] := EE (("NoStatement", ["loop", "statement"]) : Str × List Str) (by decide +kernel)
  have EN : EC K mg "NoNumber" ["number"] := EE (("NoNumber", ["number"]) : Str × List Str) (by decide +kernel)
  have EW : EC K mg "NoWork" ["work"] := EE (("NoWork", ["work"]) : Str × List Str) (by decide +kernel)
  have EF : EC K mg "TooFar" ["what", "limit"] := EE (("TooFar", ["what", "limit"]) : Str × List Str) (by decide +kernel)
  have con0 : ∀ q ∈ ([("TOP_PART", 12), ("TOP_ONE", 999), ("TOP_RANGE_PART", 3), ("TOP_DIVISOR", 3), ("TOP_STEP", 16), ("MOST_LOOPS", 6), ("MOST_STATEMENTS", 16), ("MOST_READS", 3), ("MOST_CONDITIONS", 3), ("TOP_MODULUS", 4), ("CYCLE", 12), ("TOP_SIZE", 1000000000000000000000000000000)] : List (Str × Int)), ∃ t, mg q.1 = some (.int q.2 t) := fun q hq => by
    have z := List.all_eq_true.mp (c.fact 10) q hq
    cases e : PySem.W.nsIn K mainGlobals q.1 with
    | none =>
      rw [e] at z
      cases z
    | some o =>
      rw [e] at z
      cases o with
      | none => cases z
      | some v =>
        cases v with
        | int i t =>
          have e2 : i = q.2 := of_decide_eq_true z
          subst e2
          exact ⟨t, PySem.W.mg_of X G e⟩
        | _ => cases z
  have con : ∀ q ∈ ([("TOP_PART", 12), ("TOP_ONE", 999), ("TOP_RANGE_PART", 3), ("TOP_DIVISOR", 3), ("TOP_STEP", 16), ("MOST_LOOPS", 6), ("MOST_STATEMENTS", 16), ("MOST_READS", 3), ("MOST_CONDITIONS", 3)] : List (Str × Int)), ∃ t, mg q.1 = some (.int q.2 t) := fun q hq => con0 q ((show ∀ q ∈ ([("TOP_PART", 12), ("TOP_ONE", 999), ("TOP_RANGE_PART", 3), ("TOP_DIVISOR", 3), ("TOP_STEP", 16), ("MOST_LOOPS", 6), ("MOST_STATEMENTS", 16), ("MOST_READS", 3), ("MOST_CONDITIONS", 3)] : List (Str × Int)), q ∈ ([("TOP_PART", 12), ("TOP_ONE", 999), ("TOP_RANGE_PART", 3), ("TOP_DIVISOR", 3), ("TOP_STEP", 16), ("MOST_LOOPS", 6), ("MOST_STATEMENTS", 16), ("MOST_READS", 3), ("MOST_CONDITIONS", 3), ("TOP_MODULUS", 4), ("CYCLE", 12), ("TOP_SIZE", 1000000000000000000000000000000)] : List (Str × Int)) by decide +kernel) q hq)
  obtain ⟨kw1, kw2⟩ := He.ba (c.fact 11)
  have gLe : ∃ t, mg "LETTERS" = some (.str lets t) := by
    have z := c.fact 12
    cases e : PySem.W.nsIn K mainGlobals "LETTERS" with
    | none =>
      rw [e] at z
      cases z
    | some o =>
      rw [e] at z
      cases o with
      | none => cases z
      | some v =>
        cases v with
        | str x t =>
          have e2 : x = lets := of_decide_eq_true z
          subst e2
          exact ⟨t, PySem.W.mg_of X G e⟩
        | _ => cases z
  have kwz : ∀ x ∈ (["reads", "conditions"] : List Str), ∀ H : Hp, SqT K H (kwAt x K) [] := fun x hx => kw_of (List.all_eq_true.mp (c.fact 13) x hx)
  have T : LwTx K mg := {
    gS := gl "Straight" (by decide +kernel), clS := (ow "Straight" (by decide +kernel)).1, mkS := (ow "Straight" (by decide +kernel)).2.1, ixS := (ow "Straight" (by decide +kernel)).2.2
    nI := na ("Straight", "i") (by decide +kernel), nN := na ("Straight", "n") (by decide +kernel), nO := na ("Straight", "one") (by decide +kernel)
    kSi := kSi, kSS := kSS, kiS := kiS
    isi := fr _ (by decide +kernel), int := fr _ (by decide +kernel), bool := fr _ (by decide +kernel)
    gA := gl "AtLeast" (by decide +kernel), clA := (ow "AtLeast" (by decide +kernel)).1, mkA := (ow "AtLeast" (by decide +kernel)).2.1
    nAS := na ("AtLeast", "straight") (by decide +kernel)
    gcd := gcd
    gR := gl "Rest" (by decide +kernel), clQ := (ow "Rest" (by decide +kernel)).1, mkR := (ow "Rest" (by decide +kernel)).2.1
    nRS := na ("Rest", "straight") (by decide +kernel), nRM := na ("Rest", "modulus") (by decide +kernel), nRR := na ("Rest", "rest") (by decide +kernel)
    topM := con0 ("TOP_MODULUS", 4) (by simp)
    plc := { gS := gl "Straight" (by decide +kernel), clS := (ow "Straight" (by decide +kernel)).1, mkS := (ow "Straight" (by decide +kernel)).2.1, ixS := (ow "Straight" (by decide +kernel)).2.2
             nI := na ("Straight", "i") (by decide +kernel), nN := na ("Straight", "n") (by decide +kernel), nO := na ("Straight", "one") (by decide +kernel)
             kSi := kSi, kSS := kSS, kiS := kiS
             isi := fr _ (by decide +kernel), int := fr _ (by decide +kernel), bool := fr _ (by decide +kernel)
             gP := gl "Place" (by decide +kernel), clP := (ow "Place" (by decide +kernel)).1, mkP := (ow "Place" (by decide +kernel)).2.1, ixP := (ow "Place" (by decide +kernel)).2.2
             nS := na ("Place", "straight") (by decide +kernel), nD := na ("Place", "divisor") (by decide +kernel)
             gcd := gcd, kPP := kPP, kPS := kPS, kSP := kSP, kiP := kiP }
    clR := (ow "Read" (by decide +kernel)).1, nRA := na ("Read", "array") (by decide +kernel), nRP := na ("Read", "place") (by decide +kernel), nRF := na ("Read", "factor") (by decide +kernel)
    clM := (ow "Statement" (by decide +kernel)).1, nMA := na ("Statement", "array") (by decide +kernel), nMC := na ("Statement", "cell") (by decide +kernel), nMK := na ("Statement", "constant") (by decide +kernel), nMR := na ("Statement", "reads") (by decide +kernel), nMG := na ("Statement", "conditions") (by decide +kernel)
    clL := (ow "Loop" (by decide +kernel)).1, nLo := na ("Loop", "low") (by decide +kernel), nHi := na ("Loop", "high") (by decide +kernel), nSt := na ("Loop", "statements") (by decide +kernel), nSp := na ("Loop", "step") (by decide +kernel), nDn := na ("Loop", "down") (by decide +kernel)
    clP := (ow "Program" (by decide +kernel)).1, nPL := na ("Program", "loops") (by decide +kernel), nPA := na ("Program", "arrays") (by decide +kernel), nPK := na ("Program", "known") (by decide +kernel)
    con := con
    gKW := He.glo_ok X G kw1
    tKW := fun H => (He.tupB_ok kw2 H)
    gLe := gLe
    len := fr _ (by decide +kernel), tuple := fr _ (by decide +kernel), all := fr _ (by decide +kernel), str := fr _ (by decide +kernel), set := fr _ (by decide +kernel), sorted := fr _ (by decide +kernel)
    list := fr _ (by decide +kernel), range := fr _ (by decide +kernel), max := fr _ (by decide +kernel), min := fr _ (by decide +kernel), sum := fr _ (by decide +kernel), enumerate := fr _ (by decide +kernel) }
  have U : Nb mg := { int := fr _ (by decide +kernel), len := fr _ (by decide +kernel), list := fr _ (by decide +kernel), abs := fr _ (by decide +kernel), max := fr _ (by decide +kernel), min := fr _ (by decide +kernel), sum := fr _ (by decide +kernel), divmod := fr _ (by decide +kernel), sorted := fr _ (by decide +kernel), set := fr _ (by decide +kernel), enumerate := fr _ (by decide +kernel), range := fr _ (by decide +kernel), tuple := fr _ (by decide +kernel) }
  have hCY := con0 ("CYCLE", 12) (by simp)
  have UC : CdTx K mg := { iA := (ow "AtLeast" (by decide +kernel)).2.2, iR := (ow "Rest" (by decide +kernel)).2.2, kAR := kAR, kRR := kRR, cyc := hCY, tuple := fr _ (by decide +kernel) }
  have R : RfTx K mg := {
    EL := EL, ES := ES, EZ := EZ, EN := EN, EW := EW, EF := EF
    xLL := xm ("NoLoop", "NoLoop", true) (by decide +kernel), xSL := xm ("NoStatement", "NoLoop", false) (by decide +kernel), xSS := xm ("NoStatement", "NoStatement", true) (by decide +kernel), xZL := xm ("BadSize", "NoLoop", false) (by decide +kernel), xZS := xm ("BadSize", "NoStatement", false) (by decide +kernel), xZZ := xm ("BadSize", "BadSize", true) (by decide +kernel), xNL := xm ("NoNumber", "NoLoop", false) (by decide +kernel), xNS := xm ("NoNumber", "NoStatement", false) (by decide +kernel), xNZ := xm ("NoNumber", "BadSize", false) (by decide +kernel), xNN := xm ("NoNumber", "NoNumber", true) (by decide +kernel), xWL := xm ("NoWork", "NoLoop", false) (by decide +kernel), xWS := xm ("NoWork", "NoStatement", false) (by decide +kernel), xWZ := xm ("NoWork", "BadSize", false) (by decide +kernel), xWN := xm ("NoWork", "NoNumber", false) (by decide +kernel), xWW := xm ("NoWork", "NoWork", true) (by decide +kernel) }
  obtain ⟨fd_is_integer, F_is_integer⟩ := c.def_ 1 (d := d_is_integer) rfl
  obtain ⟨fd_is_integer_from, F_is_integer_from⟩ := c.def_ 2 (d := d_is_integer_from) rfl
  obtain ⟨fd_is_size, F_is_size⟩ := c.def_ 3 (d := d_is_size) rfl
  obtain ⟨fd_is_array_name, F_is_array_name⟩ := c.def_ 4 (d := d_is_array_name) rfl
  obtain ⟨fd_straight_like, F_straight_like⟩ := c.def_ 9 (d := d_straight_like) rfl
  obtain ⟨fd_place_like, F_place_like⟩ := c.def_ 10 (d := d_place_like) rfl
  obtain ⟨fd_value_of, F_value_of⟩ := c.def_ 11 (d := d_value_of) rfl
  obtain ⟨fd_turns_from, F_turns_from⟩ := c.def_ 30 (d := d_turns_from) rfl
  obtain ⟨fd_arrays_in, F_arrays_in⟩ := c.def_ 31 (d := d_arrays_in) rfl
  obtain ⟨fd_check_many, F_check_many⟩ := c.def_ 32 (d := d_check_many) rfl
  obtain ⟨fd_check_name, F_check_name⟩ := c.def_ 33 (d := d_check_name) rfl
  obtain ⟨fd_check_number, F_check_number⟩ := c.def_ 34 (d := d_check_number) rfl
  obtain ⟨fd_check_sum, F_check_sum⟩ := c.def_ 35 (d := d_check_sum) rfl
  obtain ⟨fd_check_place, F_check_place⟩ := c.def_ 36 (d := d_check_place) rfl
  obtain ⟨fd_check_range_place, F_check_range_place⟩ := c.def_ 37 (d := d_check_range_place) rfl
  obtain ⟨fd_check_size, F_check_size⟩ := c.def_ 7 (d := d_check_size) rfl
  obtain ⟨fd_check_loop, F_check_loop⟩ := c.def_ 5 (d := d_check_loop) rfl
  obtain ⟨fd_check_statement, F_check_statement⟩ := c.def_ 6 (d := d_check_statement) rfl
  obtain ⟨fd_narrowed, F_narrowed⟩ := c.def_ 14 (d := d_narrowed) rfl
  obtain ⟨fd_is_done_in, F_is_done_in⟩ := c.def_ 15 (d := d_is_done_in) rfl
  obtain ⟨fd_many_before, F_many_before⟩ := c.def_ 16 (d := d_many_before) rfl
  obtain ⟨fd_many_of, F_many_of⟩ := c.def_ 17 (d := d_many_of) rfl
  obtain ⟨fd_works_before, F_works_before⟩ := c.def_ 22 (d := d_works_before) rfl
  obtain ⟨fd_works_in, F_works_in⟩ := c.def_ 23 (d := d_works_in) rfl
  obtain ⟨fd_done_turns, F_done_turns⟩ := c.def_ 13 (d := d_done_turns) rfl
  obtain ⟨fd_turns_of_loop, F_turns_of_loop⟩ := c.def_ 20 (d := d_turns_of_loop) rfl
  obtain ⟨fd_turns_of, F_turns_of⟩ := c.def_ 21 (d := d_turns_of) rfl
  obtain ⟨fd_turn_with, F_turn_with⟩ := c.def_ 26 (d := d_turn_with) rfl
  obtain ⟨fd_position_of, F_position_of⟩ := c.def_ 25 (d := d_position_of) rfl
  obtain ⟨fd_number_at, F_number_at⟩ := c.def_ 27 (d := d_number_at) rfl
  obtain ⟨fd_work_at, F_work_at⟩ := c.def_ 24 (d := d_work_at) rfl
  obtain ⟨fd_next_of_turns, F_next_of_turns⟩ := c.def_ 18 (d := d_next_of_turns) rfl
  obtain ⟨fd_last_of_turns, F_last_of_turns⟩ := c.def_ 19 (d := d_last_of_turns) rfl
  obtain ⟨fd_next_work, F_next_work⟩ := c.def_ 28 (d := d_next_work) rfl
  obtain ⟨fd_last_work, F_last_work⟩ := c.def_ 29 (d := d_last_work) rfl
  obtain ⟨fd__law_pen_of, F__law_pen_of⟩ := c.def_ 38 (d := d_law_pen_of) rfl
  obtain ⟨fd__law_draw, F__law_draw⟩ := c.def_ 39 (d := d_law_draw) rfl
  obtain ⟨fd__law_signed, F__law_signed⟩ := c.def_ 40 (d := d_law_signed) rfl
  obtain ⟨fd__law_name, F__law_name⟩ := c.def_ 42 (d := d_law_name) rfl
  obtain ⟨fd__law_condition_row, F__law_condition_row⟩ := c.def_ 43 (d := d_law_condition_row) rfl
  obtain ⟨fd__law_statement_row, F__law_statement_row⟩ := c.def_ 44 (d := d_law_statement_row) rfl
  obtain ⟨fd__law_loop_row, F__law_loop_row⟩ := c.def_ 45 (d := d_law_loop_row) rfl
  obtain ⟨fd__law_straight, F__law_straight⟩ := c.def_ 46 (d := d_law_straight) rfl
  obtain ⟨fd__law_condition, F__law_condition⟩ := c.def_ 47 (d := d_law_condition) rfl
  obtain ⟨fd__law_read, F__law_read⟩ := c.def_ 48 (d := d_law_read) rfl
  obtain ⟨fd__law_bound, F__law_bound⟩ := c.def_ 50 (d := d_law_bound) rfl
  obtain ⟨fd__law_statement, F__law_statement⟩ := c.def_ 49 (d := d_law_statement) rfl
  obtain ⟨fd__law_loop, F__law_loop⟩ := c.def_ 51 (d := d_law_loop) rfl
  obtain ⟨fd__law_program, F__law_program⟩ := c.def_ 52 (d := d_law_program) rfl
  obtain ⟨fd__law_least, F__law_least⟩ := c.def_ 53 (d := d_law_least) rfl
  obtain ⟨fd__law_turns, F__law_turns⟩ := c.def_ 54 (d := d_law_turns) rfl
  obtain ⟨fd__law_holds, F__law_holds⟩ := c.def_ 55 (d := d_law_holds) rfl
  obtain ⟨fd__law_done, F__law_done⟩ := c.def_ 56 (d := d_law_done) rfl
  obtain ⟨fd__law_far, F__law_far⟩ := c.def_ 41 (d := d_law_far) rfl
  obtain ⟨fd__law_span, F__law_span⟩ := c.def_ 59 (d := d_law_span) rfl
  obtain ⟨fd__law_below, F__law_below⟩ := c.def_ 60 (d := d_law_below) rfl
  obtain ⟨fd__law_many, F__law_many⟩ := c.def_ 61 (d := d_law_many) rfl
  obtain ⟨fd__law_of_statement, F__law_of_statement⟩ := c.def_ 62 (d := d_law_of_statement) rfl
  obtain ⟨fd__law_ahead, F__law_ahead⟩ := c.def_ 63 (d := d_law_ahead) rfl
  obtain ⟨fd__law_number, F__law_number⟩ := c.def_ 65 (d := d_law_number) rfl
  obtain ⟨fd__law_is_number, F__law_is_number⟩ := c.def_ 66 (d := d_law_is_number) rfl
  obtain ⟨fd__law_turn_of, F__law_turn_of⟩ := c.def_ 64 (d := d_law_turn_of) rfl
  obtain ⟨fd__law_counters, F__law_counters⟩ := c.def_ 57 (d := d_law_counters) rfl
  obtain ⟨fd__law_works, F__law_works⟩ := c.def_ 58 (d := d_law_works) rfl
  obtain ⟨fd__law_own_before, F__law_own_before⟩ := c.def_ 68 (d := d_law_own_before) rfl
  obtain ⟨fd__law_own_before_number, F__law_own_before_number⟩ := c.def_ 69 (d := d_law_own_before_number) rfl
  obtain ⟨fd__law_is_own, F__law_is_own⟩ := c.def_ 70 (d := d_law_is_own) rfl
  obtain ⟨fd__law_small_right, F__law_small_right⟩ := c.def_ 71 (d := d_law_small_right) rfl
  obtain ⟨fd__law_far_right, F__law_far_right⟩ := c.def_ 72 (d := d_law_far_right) rfl
  obtain ⟨fd__law_refused, F__law_refused⟩ := c.def_ 67 (d := d_law_refused) rfl
  obtain ⟨fd_law, F_law⟩ := c.def_ 73 (d := d_law) rfl
  obtain ⟨fdBadName__init__, FBadName__init__⟩ := c.def_ 74 (d := dBadName__init__) rfl
  obtain ⟨fdBadNumber__init__, FBadNumber__init__⟩ := c.def_ 75 (d := dBadNumber__init__) rfl
  obtain ⟨fdBadSize__init__, FBadSize__init__⟩ := c.def_ 76 (d := dBadSize__init__) rfl
  obtain ⟨fdTooMany__init__, FTooMany__init__⟩ := c.def_ 77 (d := dTooMany__init__) rfl
  obtain ⟨fdNoLoop__init__, FNoLoop__init__⟩ := c.def_ 79 (d := dNoLoop__init__) rfl
  obtain ⟨fdNoStatement__init__, FNoStatement__init__⟩ := c.def_ 80 (d := dNoStatement__init__) rfl
  obtain ⟨fdNoNumber__init__, FNoNumber__init__⟩ := c.def_ 82 (d := dNoNumber__init__) rfl
  obtain ⟨fdNoWork__init__, FNoWork__init__⟩ := c.def_ 81 (d := dNoWork__init__) rfl
  obtain ⟨fdStraight__init__, FStraight__init__⟩ := c.def_ 83 (d := dStraight__init__) rfl
  obtain ⟨fdStraight__call__, FStraight__call__⟩ := c.def_ 84 (d := dStraight__call__) rfl
  obtain ⟨fdPlace__init__, FPlace__init__⟩ := c.def_ 85 (d := dPlace__init__) rfl
  obtain ⟨fdPlace__call__, FPlace__call__⟩ := c.def_ 86 (d := dPlace__call__) rfl
  obtain ⟨fdAtLeast__init__, FAtLeast__init__⟩ := c.def_ 87 (d := dAtLeast__init__) rfl
  obtain ⟨fdAtLeastholds, FAtLeastholds⟩ := c.def_ 88 (d := dAtLeastholds) rfl
  obtain ⟨fdRest__init__, FRest__init__⟩ := c.def_ 89 (d := dRest__init__) rfl
  obtain ⟨fdRestholds, FRestholds⟩ := c.def_ 90 (d := dRestholds) rfl
  obtain ⟨fdRead__init__, FRead__init__⟩ := c.def_ 91 (d := dRead__init__) rfl
  obtain ⟨fdStatement__init__, FStatement__init__⟩ := c.def_ 92 (d := dStatement__init__) rfl
  obtain ⟨fdLoop__init__, FLoop__init__⟩ := c.def_ 94 (d := dLoop__init__) rfl
  obtain ⟨fdLoopmany_turns, FLoopmany_turns⟩ := c.def_ 95 (d := dLoopmany_turns) rfl
  obtain ⟨fdLoopcounter_of, FLoopcounter_of⟩ := c.def_ 96 (d := dLoopcounter_of) rfl
  obtain ⟨fdLoopleast_counter, FLoopleast_counter⟩ := c.def_ 98 (d := dLoopleast_counter) rfl
  obtain ⟨fdProgram__init__, FProgram__init__⟩ := c.def_ 99 (d := dProgram__init__) rfl
  have e := hfa.symm.trans (gl "law" (by decide +kernel))
  cases e
  have lt := c.fact 14
  try dsimp only at lt
  cases l1 : PySem.W.tabIn K "law" with
  | none =>
    rw [l1] at lt
    cases lt
  | some q1 =>
  rw [l1] at lt
  obtain ⟨c1, T1⟩ := q1
  have n1 : K.lookup T1 = none := Option.isNone_iff_eq_none.mp lt
  obtain ⟨r1, s1⟩ := seenR "law" (by kernel_rfl)
  obtain ⟨h1, t1⟩ := PySem.W.tab_of Tp X s1 l1
  have k1 := code_of (x := "law") (st := s_law) (f := He.ga K "law") X G F_law l1 (gl "law" (by decide +kernel))
  have RD := ref_def (f := He.ga K "_law_refused") F__law_refused (gl "_law_refused" (by decide +kernel))
  refine ⟨fd_law, [(c1, T1)], [(T1, "law.<locals>.<lambda>")], ?_, ?_, ?_, fun s v => FunD.bindsA (ps := ["_law_script"]) F_law (fun _ _ _ _ _ _ us hl => match us, hl with | [_], _ => rfl) s [v] rfl, ?_, fun base _ _ TB => ?_⟩
  · intro p hp
    rw [List.mem_singleton.mp hp]
    exact t1
  · intro p hp
    rw [List.mem_singleton.mp hp]
    exact n1
  · intro p hp
    rw [List.mem_singleton.mp hp]
    exact h1
  · intro H hT p hp
    rw [List.mem_singleton.mp hp]
    exact LamX.TabS.nil (hT (c1, T1) (by simp))
  have ML1 : MkL base mg [(T1, "law.<locals>.<lambda>")] "law.<locals>.<lambda>" c1 T1 := ⟨TB (c1, T1) (by simp), by simp, fun p hp e => by
    rw [List.mem_singleton.mp hp]⟩
  have D_is_integer : Dn P w K mg base 1 "is_integer" ["value"] (spIsInt K) := ⟨_, _, ok_isInt F_is_integer T.toStTx, gl _ (by decide +kernel), F_is_integer.kp, FunD.bindsN (ps := ["value"]) F_is_integer fun _ _ _ _ _ _ us hl => match us, hl with | [_], _ => rfl⟩
  have D_is_integer_from : Dn P w K mg base 2 "is_integer_from" ["value", "low", "high"] spIntFrom := ⟨_, _, ok_intFrom F_is_integer_from D_is_integer, gl _ (by decide +kernel), F_is_integer_from.kp, FunD.bindsN (ps := ["value", "low", "high"]) F_is_integer_from fun _ _ _ _ _ _ us hl => match us, hl with | [_, _, _], _ => rfl⟩
  have DA_is_integer : Dn P w K mg base 1 "is_integer" ["value"] spIsIntA := ⟨_, _, ok_isIntA F_is_integer T.toStTx, gl _ (by decide +kernel), F_is_integer.kp, FunD.bindsN (ps := ["value"]) F_is_integer fun _ _ _ _ _ _ us hl => match us, hl with | [_], _ => rfl⟩
  have DA_from : Dn P w K mg base 2 "is_integer_from" ["value", "low", "high"] spIntFromA := ⟨_, _, ok_intFromA F_is_integer_from DA_is_integer, gl _ (by decide +kernel), F_is_integer_from.kp, FunD.bindsN (ps := ["value", "low", "high"]) F_is_integer_from fun _ _ _ _ _ _ us hl => match us, hl with | [_, _, _], _ => rfl⟩
  have D_is_size : Dn P w K mg base 3 "is_size" ["value"] spIsSize := ⟨_, _, ok_isSize F_is_size T (con0 ("TOP_SIZE", 1000000000000000000000000000000) (by simp)) DA_from, gl _ (by decide +kernel), F_is_size.kp, FunD.bindsN (ps := ["value"]) F_is_size fun _ _ _ _ _ _ us hl => match us, hl with | [_], _ => rfl⟩
  have M : MkS P w K mg base := mk_S T.toStTx FStraight__init__
  have D_straight_like : Dn P w K mg base 3 "straight_like" ["value"] (spLike K) := ⟨_, _, ok_like F_straight_like T.toStTx M, gl _ (by decide +kernel), F_straight_like.kp, FunD.bindsN (ps := ["value"]) F_straight_like fun _ _ _ _ _ _ us hl => match us, hl with | [_], _ => rfl⟩
  have D_value_of : Dn P w K mg base 1 "value_of" ["straight", "i", "n"] (spVal K) := ⟨_, _, ok_val F_value_of T.toStTx, gl _ (by decide +kernel), F_value_of.kp, FunD.bindsN (ps := ["straight", "i", "n"]) F_value_of fun _ _ _ _ _ _ us hl => match us, hl with | [_, _, _], _ => rfl⟩
  have MB : Mx P w K mg base "BadNumber" ["self", "what", "number"] ["what", "number"] := mxBadNumber EB FBadNumber__init__
  have MT : Mx P w K mg base "TooMany" ["self", "what", "many", "limit"] ["what", "many", "limit"] := mxTooMany ET FTooMany__init__
  have MN : Mx P w K mg base "BadName" ["self", "name"] ["name"] := mxBadName EA FBadName__init__
  have MZ : Mx P w K mg base "BadSize" ["self", "n"] ["n"] := mxBadSize EZ FBadSize__init__
  have MNL : Mx P w K mg base "NoLoop" ["self", "loop"] ["loop"] := mxNoLoop EL FNoLoop__init__
  have MNS : Mx P w K mg base "NoStatement" ["self", "loop", "statement"] ["loop", "statement"] := mxNoStatement ES FNoStatement__init__
  have MNN : Mx P w K mg base "NoNumber" ["self", "number"] ["number"] := mxNoNumber EN FNoNumber__init__
  have MNW : Mx P w K mg base "NoWork" ["self", "work"] ["work"] := mxNoWork EW FNoWork__init__
  have MP : MkP P w K mg base := mk_P T.plc M MB D_straight_like FPlace__init__
  have MA : MkA P w K mg base := mk_A T.toAtTx M D_straight_like FAtLeast__init__
  have MR : MkR P w K mg base := mk_R T.toAtTx M MB D_straight_like D_is_integer_from FRest__init__
  have C : PC P w K mg base := {
    call := ⟨_, ok_PCall FPlace__call__ T.plc D_value_of, FPlace__call__.bindsN fun _ _ _ _ _ _ us hl => match us, hl with | [_, _, _], _ => rfl, ⟨(me ("Place", "__call__") (by decide +kernel)).at_, (me ("Place", "__call__") (by decide +kernel)).fn, fnIn_of FPlace__call__⟩⟩
    calS := ⟨_, ok_SCall FStraight__call__ D_value_of, FStraight__call__.bindsN fun _ _ _ _ _ _ us hl => match us, hl with | [_, _, _], _ => rfl, ⟨(me ("Straight", "__call__") (by decide +kernel)).at_, (me ("Straight", "__call__") (by decide +kernel)).fn, fnIn_of FStraight__call__⟩⟩ }
  have D_place_like : Dn P w K mg base 6 "place_like" ["value"] (spPLike K) := ⟨_, _, ok_pLike F_place_like T.toPrTx MP, gl _ (by decide +kernel), F_place_like.kp, FunD.bindsN (ps := ["value"]) F_place_like fun _ _ _ _ _ _ us hl => match us, hl with | [_], _ => rfl⟩
  have D_is_array_name : Dn P w K mg base 1 "is_array_name" ["value"] spIsName := ⟨_, _, ok_isName F_is_array_name T.toPrTx, gl _ (by decide +kernel), F_is_array_name.kp, FunD.bindsN (ps := ["value"]) F_is_array_name fun _ _ _ _ _ _ us hl => match us, hl with | [_], _ => rfl⟩
  have D_arrays_in : Dn P w K mg base 1 "arrays_in" ["loops"] (spArr K) := ⟨_, _, ok_arr F_arrays_in T.toPrTx, gl _ (by decide +kernel), F_arrays_in.kp, FunD.bindsN (ps := ["loops"]) F_arrays_in fun _ _ _ _ _ _ us hl => match us, hl with | [_], _ => rfl⟩
  have D_check_number : Dx P w K mg base 3 "check_number" ["what", "number", "low", "high"] (spCkN K) := ⟨_, _, ok_ckN F_check_number MB, gl _ (by decide +kernel), F_check_number.kp, FunD.bindsN (ps := ["what", "number", "low", "high"]) F_check_number fun _ _ _ _ _ _ us hl => match us, hl with | [_, _, _, _], _ => rfl⟩
  have D_check_many : Dx P w K mg base 3 "check_many" ["what", "things", "most"] (spCkM K) := ⟨_, _, ok_ckM F_check_many T.toPrTx MT, gl _ (by decide +kernel), F_check_many.kp, FunD.bindsN (ps := ["what", "things", "most"]) F_check_many fun _ _ _ _ _ _ us hl => match us, hl with | [_, _, _], _ => rfl⟩
  have D_check_name : Dx P w K mg base 3 "check_name" ["array"] (spCkA K) := ⟨_, _, ok_ckA F_check_name MN D_is_array_name, gl _ (by decide +kernel), F_check_name.kp, FunD.bindsN (ps := ["array"]) F_check_name fun _ _ _ _ _ _ us hl => match us, hl with | [_], _ => rfl⟩
  have D_check_sum : Dx P w K mg base 4 "check_sum" ["straight"] (spCkS K) := ⟨_, _, ok_ckS F_check_sum T.toPrTx D_check_number, gl _ (by decide +kernel), F_check_sum.kp, FunD.bindsN (ps := ["straight"]) F_check_sum fun _ _ _ _ _ _ us hl => match us, hl with | [_], _ => rfl⟩
  have D_check_place : Dx P w K mg base 5 "check_place" ["place"] (spCkP K) := ⟨_, _, ok_ckP F_check_place T.toPrTx D_check_number D_check_sum, gl _ (by decide +kernel), F_check_place.kp, FunD.bindsN (ps := ["place"]) F_check_place fun _ _ _ _ _ _ us hl => match us, hl with | [_], _ => rfl⟩
  have D_check_range_place : Dx P w K mg base 4 "check_range_place" ["place"] (spCkR K) := ⟨_, _, ok_ckR F_check_range_place T.toPrTx D_check_number, gl _ (by decide +kernel), F_check_range_place.kp, FunD.bindsN (ps := ["place"]) F_check_range_place fun _ _ _ _ _ _ us hl => match us, hl with | [_], _ => rfl⟩
  have MRd : MkRd P w K mg base := mk_Rd FRead__init__ { mK := (ow "Read" (by decide +kernel)).2.1, gC := gl "Read" (by decide +kernel), fn := ok_RdI FRead__init__ T.toPrTx MB D_check_name D_check_number D_place_like D_check_place }
  have MSt : MkSt P w K mg base := mk_St FStatement__init__ { mK := (ow "Statement" (by decide +kernel)).2.1, gC := gl "Statement" (by decide +kernel), fn := ok_StI FStatement__init__ T.toPrTx D_check_many D_check_name D_check_number D_check_sum D_straight_like } fun H => ⟨kwz _ (by decide +kernel) H, kwz _ (by decide +kernel) H⟩
  have MLp : MkLp P w K mg base := mk_Lp FLoop__init__ { mK := (ow "Loop" (by decide +kernel)).2.1, gC := gl "Loop" (by decide +kernel), fn := ok_LpI FLoop__init__ T.toPrTx MB D_check_many D_check_number D_place_like D_check_range_place }
  have MPr : MkPr P w K mg base := ⟨_, _, { mK := (ow "Program" (by decide +kernel)).2.1, gC := gl "Program" (by decide +kernel), fn := ok_PrI FProgram__init__ T.toPrTx D_check_many D_arrays_in }, FProgram__init__.bindsN fun _ _ _ _ _ _ us hl => match us, hl with | [_, _], _ => rfl⟩
  have D_turns_from : Dn P w K mg base 3 "turns_from" ["loop", "least", "n"] (spTurns K) := ⟨_, _, ok_turns F_turns_from T C, gl _ (by decide +kernel), F_turns_from.kp, FunD.bindsN (ps := ["loop", "least", "n"]) F_turns_from fun _ _ _ _ _ _ us hl => match us, hl with | [_, _, _], _ => rfl⟩
  have L1 : LM1 P w K mg base := ⟨_, ok_LC FLoopleast_counter T C, FLoopleast_counter.bindsN fun _ _ _ _ _ _ us hl => match us, hl with | [_, _], _ => rfl, (me ("Loop", "least_counter") (by decide +kernel))⟩
  have HCo : HC P w K mg base := { ah := ⟨_, ok_AHolds FAtLeastholds T.toPrTx D_value_of, FAtLeastholds.bindsN fun _ _ _ _ _ _ us hl => match us, hl with | [_, _, _], _ => rfl, (me ("AtLeast", "holds") (by decide +kernel))⟩, rh := ⟨_, ok_RHolds FRestholds T.toPrTx D_value_of, FRestholds.bindsN fun _ _ _ _ _ _ us hl => match us, hl with | [_, _, _], _ => rfl, (me ("Rest", "holds") (by decide +kernel))⟩ }
  have L : LMs P w K mg base := {
    mt := ⟨_, ok_MT FLoopmany_turns T L1 D_turns_from, FLoopmany_turns.bindsN fun _ _ _ _ _ _ us hl => match us, hl with | [_, _], _ => rfl, (me ("Loop", "many_turns") (by decide +kernel))⟩
    co := ⟨_, ok_CO FLoopcounter_of T L1 D_turns_from D_is_integer_from, FLoopcounter_of.bindsN fun _ _ _ _ _ _ us hl => match us, hl with | [_, _, _], _ => rfl, (me ("Loop", "counter_of") (by decide +kernel))⟩ }
  have D_check_size : Dx P w K mg base 4 "check_size" ["n"] (spCkZ K) := ⟨_, _, ok_ckZ F_check_size MZ D_is_size, gl _ (by decide +kernel), F_check_size.kp, FunD.bindsN (ps := ["n"]) F_check_size fun _ _ _ _ _ _ us hl => match us, hl with | [_], _ => rfl⟩
  have D_check_loop : Dx P w K mg base 4 "check_loop" ["program", "loop"] (spCkL K) := ⟨_, _, ok_ckL F_check_loop T MNL DA_from, gl _ (by decide +kernel), F_check_loop.kp, FunD.bindsN (ps := ["program", "loop"]) F_check_loop fun _ _ _ _ _ _ us hl => match us, hl with | [_, _], _ => rfl⟩
  have D_check_statement : Dx P w K mg base 5 "check_statement" ["program", "loop", "statement"] (spCkSt K) := ⟨_, _, ok_ckSt F_check_statement T MNS D_check_loop DA_from, gl _ (by decide +kernel), F_check_statement.kp, FunD.bindsN (ps := ["program", "loop", "statement"]) F_check_statement fun _ _ _ _ _ _ us hl => match us, hl with | [_, _, _], _ => rfl⟩
  have D_narrowed : Dn P w K mg base 1 "narrowed" ["low", "high", "start", "growth"] spNarrow := ⟨_, _, ok_narrowed F_narrowed U, gl _ (by decide +kernel), F_narrowed.kp, FunD.bindsN (ps := ["low", "high", "start", "growth"]) F_narrowed fun _ _ _ _ _ _ us hl => match us, hl with | [_, _, _, _], _ => rfl⟩
  have D_is_done_in : Dn P w K mg base 1 "is_done_in" ["turns", "turn"] spDoneIn := ⟨_, _, ok_doneIn F_is_done_in hCY, gl _ (by decide +kernel), F_is_done_in.kp, FunD.bindsN (ps := ["turns", "turn"]) F_is_done_in fun _ _ _ _ _ _ us hl => match us, hl with | [_, _], _ => rfl⟩
  have D_many_before : Dn P w K mg base 1 "many_before" ["turns", "turn"] spBefore := ⟨_, _, ok_before F_many_before U hCY, gl _ (by decide +kernel), F_many_before.kp, FunD.bindsN (ps := ["turns", "turn"]) F_many_before fun _ _ _ _ _ _ us hl => match us, hl with | [_, _], _ => rfl⟩
  have D_many_of : Dn P w K mg base 2 "many_of" ["turns"] spManyOf := ⟨_, _, ok_manyOf F_many_of D_many_before, gl _ (by decide +kernel), F_many_of.kp, FunD.bindsN (ps := ["turns"]) F_many_of fun _ _ _ _ _ _ us hl => match us, hl with | [_], _ => rfl⟩
  have D_works_before : Dn P w K mg base 2 "works_before" ["columns", "turn"] spWBelow := ⟨_, _, ok_wBelow F_works_before U D_many_before, gl _ (by decide +kernel), F_works_before.kp, FunD.bindsN (ps := ["columns", "turn"]) F_works_before fun _ _ _ _ _ _ us hl => match us, hl with | [_, _], _ => rfl⟩
  have D_works_in : Dn P w K mg base 3 "works_in" ["columns"] spWIn := ⟨_, _, ok_wIn F_works_in U D_many_of, gl _ (by decide +kernel), F_works_in.kp, FunD.bindsN (ps := ["columns"]) F_works_in fun _ _ _ _ _ _ us hl => match us, hl with | [_], _ => rfl⟩
  have D_done_turns : Dn P w K mg base 5 "done_turns" ["loop", "conditions", "n"] (spDT K) := ⟨_, _, ok_DT F_done_turns T UC C HCo L D_narrowed, gl _ (by decide +kernel), F_done_turns.kp, FunD.bindsN (ps := ["loop", "conditions", "n"]) F_done_turns fun _ _ _ _ _ _ us hl => match us, hl with | [_, _, _], _ => rfl⟩
  have D_turns_of_loop : Dn P w K mg base 6 "turns_of_loop" ["loop", "n"] (spTOL K) := ⟨_, _, ok_TOL F_turns_of_loop T D_done_turns, gl _ (by decide +kernel), F_turns_of_loop.kp, FunD.bindsN (ps := ["loop", "n"]) F_turns_of_loop fun _ _ _ _ _ _ us hl => match us, hl with | [_, _], _ => rfl⟩
  have D_turns_of : Dn P w K mg base 7 "turns_of" ["program", "n"] (spTO K) := ⟨_, _, ok_TO F_turns_of T D_turns_of_loop, gl _ (by decide +kernel), F_turns_of.kp, FunD.bindsN (ps := ["program", "n"]) F_turns_of fun _ _ _ _ _ _ us hl => match us, hl with | [_, _], _ => rfl⟩
  have D_turn_with : Dn P w K mg base 3 "turn_with" ["columns", "number"] spTW := ⟨_, _, ok_TW F_turn_with T U hCY D_works_before D_is_done_in, gl _ (by decide +kernel), F_turn_with.kp, FunD.bindsN (ps := ["columns", "number"]) F_turn_with fun _ _ _ _ _ _ us hl => match us, hl with | [_, _], _ => rfl⟩
  have D_position_of : Dn P w K mg base 4 "position_of" ["program", "n", "tables", "number"] spPos := ⟨_, _, ok_Pos F_position_of T U D_works_in D_turn_with D_works_before D_is_done_in, gl _ (by decide +kernel), F_position_of.kp, FunD.bindsN (ps := ["program", "n", "tables", "number"]) F_position_of fun _ _ _ _ _ _ us hl => match us, hl with | [_, _, _, _], _ => rfl⟩
  have D_number_at : Dn P w K mg base 4 "number_at" ["tables", "loop", "turn", "statement"] spNAt := ⟨_, _, ok_NAt F_number_at T U D_works_in D_works_before D_is_done_in, gl _ (by decide +kernel), F_number_at.kp, FunD.bindsN (ps := ["tables", "loop", "turn", "statement"]) F_number_at fun _ _ _ _ _ _ us hl => match us, hl with | [_, _, _, _], _ => rfl⟩
  have D_work_at : Dx P w K mg base 8 "work_at" ["program", "n", "number"] (spWAt K) := ⟨_, _, ok_WAt F_work_at T D_check_size D_turns_of D_works_in D_position_of L MNN, gl _ (by decide +kernel), F_work_at.kp, FunD.bindsN (ps := ["program", "n", "number"]) F_work_at fun _ _ _ _ _ _ us hl => match us, hl with | [_, _, _], _ => rfl⟩
  have D_next_of_turns : Dn P w K mg base 1 "next_of_turns" ["turns", "turn"] spNextT := ⟨_, _, ok_nextT F_next_of_turns T U hCY, gl _ (by decide +kernel), F_next_of_turns.kp, FunD.bindsN (ps := ["turns", "turn"]) F_next_of_turns fun _ _ _ _ _ _ us hl => match us, hl with | [_, _], _ => rfl⟩
  have D_last_of_turns : Dn P w K mg base 1 "last_of_turns" ["turns", "turn"] spLastT := ⟨_, _, ok_lastT F_last_of_turns T U hCY, gl _ (by decide +kernel), F_last_of_turns.kp, FunD.bindsN (ps := ["turns", "turn"]) F_last_of_turns fun _ _ _ _ _ _ us hl => match us, hl with | [_, _], _ => rfl⟩
  have D_next_work : Dx P w K mg base 8 "next_work" ["program", "n", "number", "loop", "statement"] (spNW K) := ⟨_, _, ok_NW F_next_work T D_check_statement D_check_size D_turns_of D_works_in D_position_of D_next_of_turns D_number_at, gl _ (by decide +kernel), F_next_work.kp, FunD.bindsN (ps := ["program", "n", "number", "loop", "statement"]) F_next_work fun _ _ _ _ _ _ us hl => match us, hl with | [_, _, _, _, _], _ => rfl⟩
  have D_last_work : Dx P w K mg base 8 "last_work" ["program", "n", "number", "loop", "statement"] (spLW K) := ⟨_, _, ok_LW F_last_work T D_check_statement D_check_size D_turns_of D_works_in D_position_of D_last_of_turns D_number_at L, gl _ (by decide +kernel), F_last_work.kp, FunD.bindsN (ps := ["program", "n", "number", "loop", "statement"]) F_last_work fun _ _ _ _ _ _ us hl => match us, hl with | [_, _, _, _, _], _ => rfl⟩
  have D__law_pen_of : Dn P w K mg base 1 "_law_pen_of" ["_law_script"] (spPen K) := ⟨_, _, ok_pen F__law_pen_of U.toBt, gl _ (by decide +kernel), F__law_pen_of.kp, FunD.bindsN (ps := ["_law_script"]) F__law_pen_of fun _ _ _ _ _ _ us hl => match us, hl with | [_], _ => rfl⟩
  have D__law_draw : Dn P w K mg base 1 "_law_draw" ["_law_pen", "_law_many_here"] spDraw := ⟨_, _, ok_draw F__law_draw U.toBt, gl _ (by decide +kernel), F__law_draw.kp, FunD.bindsN (ps := ["_law_pen", "_law_many_here"]) F__law_draw fun _ _ _ _ _ _ us hl => match us, hl with | [_, _], _ => rfl⟩
  have D__law_signed : Dn P w K mg base 2 "_law_signed" ["_law_pen", "_law_most"] spSigned := ⟨_, _, ok_signed F__law_signed D__law_draw, gl _ (by decide +kernel), F__law_signed.kp, FunD.bindsN (ps := ["_law_pen", "_law_most"]) F__law_signed fun _ _ _ _ _ _ us hl => match us, hl with | [_, _], _ => rfl⟩
  have D__law_name : Dn P w K mg base 2 "_law_name" ["_law_pen"] spName := ⟨_, _, ok_name F__law_name T D__law_draw, gl _ (by decide +kernel), F__law_name.kp, FunD.bindsN (ps := ["_law_pen"]) F__law_name fun _ _ _ _ _ _ us hl => match us, hl with | [_], _ => rfl⟩
  have D__law_condition_row : Dn P w K mg base 3 "_law_condition_row" ["_law_pen", "_law_most"] spCRow := ⟨_, _, ok_cRow F__law_condition_row D__law_draw D__law_signed, gl _ (by decide +kernel), F__law_condition_row.kp, FunD.bindsN (ps := ["_law_pen", "_law_most"]) F__law_condition_row fun _ _ _ _ _ _ us hl => match us, hl with | [_, _], _ => rfl⟩
  have D__law_statement_row : Dn P w K mg base 4 "_law_statement_row" ["_law_pen", "_law_most", "_law_tests"] spSRow := ⟨_, _, ok_sRow F__law_statement_row T D__law_draw D__law_signed D__law_name D__law_condition_row, gl _ (by decide +kernel), F__law_statement_row.kp, FunD.bindsN (ps := ["_law_pen", "_law_most", "_law_tests"]) F__law_statement_row fun _ _ _ _ _ _ us hl => match us, hl with | [_, _, _], _ => rfl⟩
  have D__law_loop_row : Dn P w K mg base 5 "_law_loop_row" ["_law_pen", "_law_most", "_law_statements", "_law_tests"] spLRow := ⟨_, _, ok_lRow F__law_loop_row T D__law_draw D__law_signed D__law_statement_row, gl _ (by decide +kernel), F__law_loop_row.kp, FunD.bindsN (ps := ["_law_pen", "_law_most", "_law_statements", "_law_tests"]) F__law_loop_row fun _ _ _ _ _ _ us hl => match us, hl with | [_, _, _, _], _ => rfl⟩
  have D__law_straight : Dn P w K mg base 3 "_law_straight" ["_law_row"] (spLStr K) := ⟨_, _, ok_lstr F__law_straight T M, gl _ (by decide +kernel), F__law_straight.kp, FunD.bindsN (ps := ["_law_row"]) F__law_straight fun _ _ _ _ _ _ us hl => match us, hl with | [_], _ => rfl⟩
  have D__law_condition : Dn P w K mg base 6 "_law_condition" ["_law_row"] (spLCond K) := ⟨_, _, ok_lcond F__law_condition T M MA MR, gl _ (by decide +kernel), F__law_condition.kp, FunD.bindsN (ps := ["_law_row"]) F__law_condition fun _ _ _ _ _ _ us hl => match us, hl with | [_], _ => rfl⟩
  have D__law_read : Dn P w K mg base 9 "_law_read" ["_law_row"] (spLRead K) := ⟨_, _, ok_lread F__law_read T M MP MRd, gl _ (by decide +kernel), F__law_read.kp, FunD.bindsN (ps := ["_law_row"]) F__law_read fun _ _ _ _ _ _ us hl => match us, hl with | [_], _ => rfl⟩
  have D__law_bound : Dn P w K mg base 6 "_law_bound" ["_law_row"] (spLBound K) := ⟨_, _, ok_lbound F__law_bound T M MP, gl _ (by decide +kernel), F__law_bound.kp, FunD.bindsN (ps := ["_law_row"]) F__law_bound fun _ _ _ _ _ _ us hl => match us, hl with | [_], _ => rfl⟩
  have D__law_statement : Dn P w K mg base 10 "_law_statement" ["_law_row"] (spLStm K) := ⟨_, _, ok_lstm F__law_statement T MSt D__law_read D__law_straight D__law_condition, gl _ (by decide +kernel), F__law_statement.kp, FunD.bindsN (ps := ["_law_row"]) F__law_statement fun _ _ _ _ _ _ us hl => match us, hl with | [_], _ => rfl⟩
  have D__law_loop : Dn P w K mg base 11 "_law_loop" ["_law_row"] (spLLoop K) := ⟨_, _, ok_lloop F__law_loop T MLp D__law_statement D__law_bound, gl _ (by decide +kernel), F__law_loop.kp, FunD.bindsN (ps := ["_law_row"]) F__law_loop fun _ _ _ _ _ _ us hl => match us, hl with | [_], _ => rfl⟩
  have D__law_program : Dn P w K mg base 12 "_law_program" ["_law_rows"] (spLProg K) := ⟨_, _, ok_lprog F__law_program T MPr D__law_loop, gl _ (by decide +kernel), F__law_program.kp, FunD.bindsN (ps := ["_law_rows"]) F__law_program fun _ _ _ _ _ _ us hl => match us, hl with | [_], _ => rfl⟩
  have D__law_least : Dn P w K mg base 1 "_law_least" ["_law_loop_here", "_law_n"] spLLeast := ⟨_, _, ok_lleast F__law_least T, gl _ (by decide +kernel), F__law_least.kp, FunD.bindsN (ps := ["_law_loop_here", "_law_n"]) F__law_least fun _ _ _ _ _ _ us hl => match us, hl with | [_, _], _ => rfl⟩
  have D__law_turns : Dn P w K mg base 2 "_law_turns" ["_law_loop_here", "_law_n"] spLTurns := ⟨_, _, ok_lturns F__law_turns T D__law_least, gl _ (by decide +kernel), F__law_turns.kp, FunD.bindsN (ps := ["_law_loop_here", "_law_n"]) F__law_turns fun _ _ _ _ _ _ us hl => match us, hl with | [_, _], _ => rfl⟩
  have D__law_holds : Dn P w K mg base 1 "_law_holds" ["_law_row", "_law_i", "_law_n"] spHolds := ⟨_, _, ok_holds F__law_holds T, gl _ (by decide +kernel), F__law_holds.kp, FunD.bindsN (ps := ["_law_row", "_law_i", "_law_n"]) F__law_holds fun _ _ _ _ _ _ us hl => match us, hl with | [_, _, _], _ => rfl⟩
  have D__law_done : Dn P w K mg base 2 "_law_done" ["_law_statement_here", "_law_i", "_law_n"] spLDone := ⟨_, _, ok_ldone F__law_done T D__law_holds, gl _ (by decide +kernel), F__law_done.kp, FunD.bindsN (ps := ["_law_statement_here", "_law_i", "_law_n"]) F__law_done fun _ _ _ _ _ _ us hl => match us, hl with | [_, _, _], _ => rfl⟩
  have D__law_far : Dn P w K mg base 2 "_law_far" ["_law_pen"] spFar := ⟨_, _, ok_far F__law_far T D__law_draw, gl _ (by decide +kernel), F__law_far.kp, FunD.bindsN (ps := ["_law_pen"]) F__law_far fun _ _ _ _ _ _ us hl => match us, hl with | [_], _ => rfl⟩
  have D__law_span : Dn P w K mg base 3 "_law_span" ["_law_loop_here", "_law_statement_here", "_law_n"] spSpan := ⟨_, _, ok_span F__law_span T D__law_least D__law_turns D__law_holds, gl _ (by decide +kernel), F__law_span.kp, FunD.bindsN (ps := ["_law_loop_here", "_law_statement_here", "_law_n"]) F__law_span fun _ _ _ _ _ _ us hl => match us, hl with | [_, _, _], _ => rfl⟩
  have D__law_below : Dn P w K mg base 1 "_law_below" ["_law_span_here", "_law_turn"] spLBelow := ⟨_, _, ok_lbelow F__law_below T, gl _ (by decide +kernel), F__law_below.kp, FunD.bindsN (ps := ["_law_span_here", "_law_turn"]) F__law_below fun _ _ _ _ _ _ us hl => match us, hl with | [_, _], _ => rfl⟩
  have D__law_many : Dn P w K mg base 4 "_law_many" ["_law_rows", "_law_n"] spLMany := ⟨_, _, ok_lmany F__law_many T D__law_span D__law_below D__law_turns, gl _ (by decide +kernel), F__law_many.kp, FunD.bindsN (ps := ["_law_rows", "_law_n"]) F__law_many fun _ _ _ _ _ _ us hl => match us, hl with | [_, _], _ => rfl⟩
  have D__law_of_statement : Dn P w K mg base 4 "_law_of_statement" ["_law_loop_here", "_law_statement_here", "_law_n"] spOfSt := ⟨_, _, ok_ofSt F__law_of_statement D__law_span D__law_below D__law_turns, gl _ (by decide +kernel), F__law_of_statement.kp, FunD.bindsN (ps := ["_law_loop_here", "_law_statement_here", "_law_n"]) F__law_of_statement fun _ _ _ _ _ _ us hl => match us, hl with | [_, _, _], _ => rfl⟩
  have D__law_ahead : Dn P w K mg base 4 "_law_ahead" ["_law_loop_here", "_law_statement_here", "_law_n", "_law_turn"] spAhead := ⟨_, _, ok_ahead F__law_ahead T D__law_span D__law_below D__law_turns, gl _ (by decide +kernel), F__law_ahead.kp, FunD.bindsN (ps := ["_law_loop_here", "_law_statement_here", "_law_n", "_law_turn"]) F__law_ahead fun _ _ _ _ _ _ us hl => match us, hl with | [_, _, _, _], _ => rfl⟩
  have D__law_is_number : Dn P w K mg base 1 "_law_is_number" ["_law_value"] spIsNum := ⟨_, _, ok_isNum F__law_is_number T, gl _ (by decide +kernel), F__law_is_number.kp, FunD.bindsN (ps := ["_law_value"]) F__law_is_number fun _ _ _ _ _ _ us hl => match us, hl with | [_], _ => rfl⟩
  have D__law_turn_of : Dn P w K mg base 3 "_law_turn_of" ["_law_rows", "_law_n", "_law_work"] spLTurnOf := ⟨_, _, ok_lturnOf F__law_turn_of T U D__law_least D__law_turns D__law_done, gl _ (by decide +kernel), F__law_turn_of.kp, FunD.bindsN (ps := ["_law_rows", "_law_n", "_law_work"]) F__law_turn_of fun _ _ _ _ _ _ us hl => match us, hl with | [_, _, _], _ => rfl⟩
  have D__law_number : Dn P w K mg base 5 "_law_number" ["_law_rows", "_law_n", "_law_work"] spLNumber := ⟨_, _, ok_lnumber F__law_number T D__law_turn_of D__law_many D__law_ahead D__law_done, gl _ (by decide +kernel), F__law_number.kp, FunD.bindsN (ps := ["_law_rows", "_law_n", "_law_work"]) F__law_number fun _ _ _ _ _ _ us hl => match us, hl with | [_, _, _], _ => rfl⟩
  have D__law_counters : Dn P w K mg base 3 "_law_counters" ["_law_loop_here", "_law_n"] spCounters := ⟨_, _, ok_counters F__law_counters T D__law_least D__law_turns, gl _ (by decide +kernel), F__law_counters.kp, FunD.bindsN (ps := ["_law_loop_here", "_law_n"]) F__law_counters fun _ _ _ _ _ _ us hl => match us, hl with | [_, _], _ => rfl⟩
  have D__law_works : Dn P w K mg base 4 "_law_works" ["_law_rows", "_law_n"] spWorks := ⟨_, _, ok_works F__law_works T D__law_counters D__law_done, gl _ (by decide +kernel), F__law_works.kp, FunD.bindsN (ps := ["_law_rows", "_law_n"]) F__law_works fun _ _ _ _ _ _ us hl => match us, hl with | [_, _], _ => rfl⟩
  have D__law_own_before : Dn P w K mg base 5 "_law_own_before" ["_law_rows", "_law_n", "_law_work", "_law_at", "_law_k"] spOwnB := ⟨_, _, ok_ownB F__law_own_before T D__law_turn_of D__law_of_statement D__law_ahead D__law_done, gl _ (by decide +kernel), F__law_own_before.kp, FunD.bindsN (ps := ["_law_rows", "_law_n", "_law_work", "_law_at", "_law_k"]) F__law_own_before fun _ _ _ _ _ _ us hl => match us, hl with | [_, _, _, _, _], _ => rfl⟩
  have D__law_own_before_number : Dn P w K mg base 9 "_law_own_before_number" ["_law_program_here", "_law_rows", "_law_n", "_law_number_here", "_law_at", "_law_k"] (spOwnN K) := ⟨_, _, ok_ownN F__law_own_before_number T D__law_many D__law_of_statement D_work_at D__law_own_before D__law_number, gl _ (by decide +kernel), F__law_own_before_number.kp, FunD.bindsN (ps := ["_law_program_here", "_law_rows", "_law_n", "_law_number_here", "_law_at", "_law_k"]) F__law_own_before_number fun _ _ _ _ _ _ us hl => match us, hl with | [_, _, _, _, _, _], _ => rfl⟩
  have D__law_is_own : Dn P w K mg base 9 "_law_is_own" ["_law_program_here", "_law_rows", "_law_n", "_law_told", "_law_at", "_law_k", "_law_before"] (spIsOwn K) := ⟨_, _, ok_isOwn F__law_is_own T D__law_is_number D__law_many D_work_at D__law_own_before D__law_number, gl _ (by decide +kernel), F__law_is_own.kp, FunD.bindsN (ps := ["_law_program_here", "_law_rows", "_law_n", "_law_told", "_law_at", "_law_k", "_law_before"]) F__law_is_own fun _ _ _ _ _ _ us hl => match us, hl with | [_, _, _, _, _, _, _], _ => rfl⟩
  have D__law_small_right : Dn P w K mg base 9 "_law_small_right" ["_law_pen", "_law_program_here", "_law_rows"] (spSmallR K) := ⟨_, _, ok_smallR F__law_small_right T D__law_draw D__law_works D_next_work D_last_work, gl _ (by decide +kernel), F__law_small_right.kp, FunD.bindsN (ps := ["_law_pen", "_law_program_here", "_law_rows"]) F__law_small_right fun _ _ _ _ _ _ us hl => match us, hl with | [_, _, _], _ => rfl⟩
  have D__law_far_right : Dn P w K mg base 10 "_law_far_right" ["_law_pen", "_law_program_here", "_law_rows"] (spFarR K) := ⟨_, _, ok_farR F__law_far_right T D__law_draw D__law_far D__law_many D__law_of_statement D__law_own_before_number D__law_is_own D_next_work D_last_work, gl _ (by decide +kernel), F__law_far_right.kp, FunD.bindsN (ps := ["_law_pen", "_law_program_here", "_law_rows"]) F__law_far_right fun _ _ _ _ _ _ us hl => match us, hl with | [_, _, _], _ => rfl⟩
  exact ok_law F_law k1 ML1 RD R T D__law_pen_of D__law_draw D__law_loop_row D__law_program D__law_small_right D__law_far_right D_next_work D_last_work
/-- the end: what the head has laid is handed on -/
theorem ends {l : PySem.W.OpenLaw} {m j : Nat} {q : Program} {free : List Str} {A : (Str → Option Value) → Heap → Prop} {B : World → Heap → Prop} {d : DefRec} {arg : Str}
    (e1 : l.most = some m) (e2 : m ≤ sizeLine) (e3 : d.params.defaults = []) (room : Room j callerA)
    (given : ∀ (w : World) (g : Str → Option Value) (f : Addr) (h : Heap), B w h → (∃ lo mean b, Top q lo mean g b h) → g d.name = some (.ref f) → ∃ K : PySem.W.Frag, K.In h ∧ LamX.LawAtS l w K CX0 j m arg g f h) :
    PySem.W.WalkO q free A B l.row.toRowW d [] (fun f vs => PySem.call f vs) := by
  refine Att.attach_callB e1 e3 fun w _ t g b f _ _ _ _ a us is gr y _ _ _ gf ho hi len bits gs => ?_
  have Z := gr.T
  obtain ⟨K, kin, fd, cs, sp, a1, a2, a3, a4, a5, a6⟩ := given w g f _ y ⟨_, _, _, Z⟩ gf
  exact LamX.law_callTs kin Z.g Z.b Z.builtins Z.nolimit gs a1 a2 a3 Z.bmain ho hi (Nat.le_trans len e2) room a6 a4 (fun H z1 z2 => a5 H a is len bits z1 z2) fun H e u z => z
end K35
open PySem PySem.W PySem.Calls PyProof.Rows
theorem PySem.Challenge.cw_loopsize_k35_next_and_last_works_of_a_st_holds : PySem.Challenge.rw_loopsize_k35_next_and_last_works_of_a_st.Holds := by
  w_on; o_law
  refine HandSHeadRun.head_imp (r := OpenLaw.row PySem.Challenge.rw_loopsize_k35_next_and_last_works_of_a_st) (q := view (OpenLaw.row PySem.Challenge.rw_loopsize_k35_next_and_last_works_of_a_st).prog [0, 115]) (H := K35.hk) (ob := K35.ob) (M := 60000) (loose := K35.names) (d := HandSHeadRun.topDef (OpenLaw.row PySem.Challenge.rw_loopsize_k35_next_and_last_works_of_a_st).prog 115) (kwd := []) K35.ob_eq
    K35.run (by kernel_rfl) (by kernel_rfl) (by kernel_rfl) (by rfl) (by first | assumption | decide +kernel) (by decide +kernel) ⟨rfl, rfl, rfl, rfl, rfl, by decide +kernel⟩ ?hw ?hc
  case hw => w_witness2
  case hc =>
    refine K35.ends (l := PySem.Challenge.rw_loopsize_k35_next_and_last_works_of_a_st) (m := 63) (j := 13) (arg := "_law_script") rfl (by decide) (by kernel_rfl) ⟨rfl, by decide, by decide⟩ fun w mg fa h Y Z n => ?_
    obtain ⟨K, KX, c⟩ := Y
    have n2 : mg ("law" : PySem.Str) = some (.ref fa) := by
      have e : (HandSHeadRun.topDef (OpenLaw.row PySem.Challenge.rw_loopsize_k35_next_and_last_works_of_a_st).prog 115).name = ("law" : PySem.Str) := by kernel_rfl
      rw [← e]
      exact n
    obtain ⟨fd, cs, TS, b1, b2, b3, b4, b5, b6⟩ := K35.facts (P := (PySem.Challenge.rw_loopsize_k35_next_and_last_works_of_a_st).prog) (w := w) KX Z n2 c
    exact ⟨K, KX, fd, cs, K35.spLaw K TS, b1, b2, b3, b4, fun H a ns hl _ hT hS => ⟨a, ns, rfl, hS, hl, b5 H hT, fun _ => rfl⟩, b6⟩
