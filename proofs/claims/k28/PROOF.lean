import PyProof.Rows.All
import Wide.All
import OpenK.AllK
import Wide.FinOn
import KE.KExcIs
import HandS.ForMost
import HandS.Exc
import HandS.ExcInit
import HandS.ExcOwn
import HandS.ExcValue
import HandS.ExcField
import HandS.ExcIs
import HandS.IsInst
import HandS.WordsExc
import HandS.Defaults
import HandS.HeadHook1
import HandS.HeadHook2
import HandS.Head0
import HandS.Head1
import HandS.Head2
import HandS.HeadEnd
import KE.KOpsOwn
import PyProof.ListMulRight
import PyProof.FactsAll.int_3
import PyProof.FactsAll.int_5
import HandS.Star
import HandS.Gcd
import HandS.Wide
import HandS.SlotsOwn
import PyProof.InstNe
import HandS.TryMany
import HandS.MakeKwOnly
import HandS.CallSlots
import HandS.SetFor
import HandS.Strs
import HandS.SetTxt0
import PyProof.Rows.SortShellAny
import HandS.Comp
import HandS.Iter
import HandS.Head3
import HandS.Walk
import KE.GoesEnum
import HandS.Style
import HandS.SortInts
import HandS.More
import HandS.Replace
import HandS.WordsDict
import HandS.SetKeys
import HandS.TupAny
import PySem.Challenge.RW_loopsize_k28_whole_steps_back_and_forth
set_option Elab.async false
set_option linter.all false
set_option maxRecDepth 100000
set_option maxHeartbeats 4000000
namespace Z
open PySem PySem.Spec PyProof.Rows L2
end Z
set_option maxHeartbeats 4000000
namespace Z
open PySem PySem.Spec PyProof.Rows L2
abbrev FaK : Type := PySem.W.Frag → Bool
def obsX (fa : List FaK) (fn : List He.DefD) (K : PySem.W.Frag) : He.AlD := ((fa.all fun f => f K) && fn.all fun d => d.ok K, fn.map fun d => He.fnW K d.at_)
def SaysX (fa : List FaK) (fn : List He.DefD) (K : PySem.W.Frag) : Prop := obsX fa fn K = He.valD fn
section
variable {fa : List FaK} {fn : List He.DefD} {K : PySem.W.Frag}
theorem SaysX.fact (c : SaysX fa fn K) (i : Nat) {f : FaK} (h : fa[i]? = some f := by rfl) : f K = true := by
  have c1 := (He.ba (show ((fa.all fun f => f K) && fn.all fun d => d.ok K) = true from congrArg (fun z : He.AlD => z.1) c)).1
  exact List.all_eq_true.mp c1 f (List.mem_of_getElem? h)
theorem SaysX.def_ (c : SaysX fa fn K) (i : Nat) {d : He.DefD} (h : fn[i]? = some d := by rfl) : ∃ fd, FunD K d.name d.qual d.params d.body d.scope (d.dvs K) (d.kws K) (He.fAd K d.at_) fd := by
  have c2 := (He.ba (show ((fa.all fun f => f K) && fn.all fun d => d.ok K) = true from congrArg (fun z : He.AlD => z.1) c)).2
  have e : fn.map (fun d => He.fnW K d.at_) = fn.map He.DefD.val := congrArg (fun z : He.AlD => z.2) c
  have e2 : (fn.map fun d => He.fnW K d.at_)[i]? = (fn.map He.DefD.val)[i]? := by rw [e]
  rw [List.getElem?_map, List.getElem?_map, h] at e2
  exact He.DefD.funD (Option.some.inj e2) (List.all_eq_true.mp c2 d (List.mem_of_getElem? h))
end
def oexB (K : PySem.W.Frag) (C : Addr) : Bool := match K.lookup C with
  | some ⟨.type t, _, .cls cd, sl⟩ => decide (t = "type") && (match cd.mro, sl.toList with
    | .ref C' :: bm, [_, _, _, _, some (.builtin n), _] => decide (C' = C) && (decide (n = "ValueError.__new__") && (!cd.hasDel && (cd.hasDict && PySem.HandSPX.refsVE bm)))
    | _, _ => false)
  | _ => false
theorem oexB_ok {K : PySem.W.Frag} {C : Addr} (q : oexB K C = true) : ∃ nm q N bs bm sn sub ab col dd k0 k1 k2 k3 k5, K.lookup C = some (excClassObj nm q C N bs bm true sn sub ab col dd k0 k1 k2 k3 k5 "ValueError.__new__") ∧ PySem.HandSPX.refsVE bm = true := by
  unfold oexB at q
  split at q
  · rename_i t dd cd sl ho
    split at q
    · rename_i C' bm k0 k1 k2 k3 n k5 hm hs
      obtain ⟨q0, q⟩ := He.ba q
      obtain ⟨q1, q⟩ := He.ba q
      obtain ⟨q2, q⟩ := He.ba q
      obtain ⟨q3, q⟩ := He.ba q
      obtain ⟨q4, q5⟩ := He.ba q
      have e0 := of_decide_eq_true q0
      have e1 := of_decide_eq_true q1
      have e2 := of_decide_eq_true q2
      obtain ⟨nm, bs, mro, ns, qn, hd, sn, sub, ab, col, del⟩ := cd
      dsimp only at hm q3 q4
      have e3 : del = false := by
        cases del
        · rfl
        · cases q3
      subst hm e3 q4
      have hsl : sl = #[k0, k1, k2, k3, some (.builtin n), k5] := by
        obtain ⟨l⟩ := sl
        simp only at hs
        rw [hs]
      subst hsl
      rw [e0, e1, e2] at ho
      exact ⟨nm, qn, ns, bs, bm, sn, sub, ab, col, dd, k0, k1, k2, k3, k5, ho, q5⟩
    · obtain ⟨_, q⟩ := He.ba q
      cases q
  · cases q
/-- all that is asked of an exception class -/
def exkB (K : PySem.W.Frag) (C : Addr) : Bool :=
  He.eqO (PySem.W.findIn K (.ref C) "__setattr__") (some (some (.builtin "object.__setattr__"))) &&
  (decide (PySem.W.subIn K (.ref C) (.type "BaseException") = some true) &&
  (decide (PySem.W.typeIn K (.ref C) = some (.type "type")) &&
  (PySem.W.keepIn K (.ref C) &&
  (He.eqO (PySem.W.findIn K (.ref C) "__getattribute__") (some (some (.builtin "BaseException.__getattribute__"))) &&
  (He.eqO (PySem.W.findIn K (.ref C) "__getattr__") (some none) &&
  (PySem.W.hasDictIn K C &&
  (He.eqO (PySem.W.findIn K (.ref C) "__class__") (some (some (.builtin "object.__class__"))) &&
  (He.eqO (PySem.W.specialIn K (.builtin "object.__class__") "__get__") (some (some (.builtin "getset_descriptor.__get__"))) &&
  (decide (PySem.W.takesIn K (.builtin "object.__class__") = some true) &&
  decide (PySem.W.mroIn K C (.type "object") = some true))))))))))
structure Exk (K : PySem.W.Frag) (C : Addr) : Prop where
  sa : PySem.W.findIn K (.ref C) "__setattr__" = some (some (.builtin "object.__setattr__"))
  exC : PySem.W.subIn K (.ref C) (.type "BaseException") = some true
  tyC : PySem.W.typeIn K (.ref C) = some (.type "type")
  kC : PySem.W.keepIn K (.ref C) = true
  xf : XfC K C
  ec : ExcC K C
theorem exkB_ok {K : PySem.W.Frag} {C : Addr} (q : exkB K C = true) : Exk K C := by
  unfold exkB at q
  obtain ⟨h1, q⟩ := He.ba q
  obtain ⟨h2, q⟩ := He.ba q
  obtain ⟨h3, q⟩ := He.ba q
  obtain ⟨h4, q⟩ := He.ba q
  obtain ⟨h5, q⟩ := He.ba q
  obtain ⟨h6, q⟩ := He.ba q
  obtain ⟨h7, q⟩ := He.ba q
  obtain ⟨h8, q⟩ := He.ba q
  obtain ⟨h9, q⟩ := He.ba q
  obtain ⟨h10, h11⟩ := He.ba q
  have e2 := of_decide_eq_true h2
  exact ⟨He.eqO_ok h1, e2, of_decide_eq_true h3, h4, ⟨He.eqO_ok h5, He.eqO_ok h6, e2, h7⟩, ⟨He.eqO_ok h5, He.eqO_ok h6, e2, h7, He.eqO_ok h8, He.eqO_ok h9, of_decide_eq_true h10, of_decide_eq_true h11⟩⟩
theorem oex_of {K : PySem.W.Frag} {C : Addr} (q : oexB K C = true) (e : Exk K C) : OexC K C := ⟨oexB_ok q, e.sa, e.exC, e.tyC, e.kC⟩
def Dn (P : Program) (w : World) (K : PySem.W.Frag) (mg : Str → Option Value) (base : Heap) (j : Nat) (x : Str) (ps : List Str) (sp : Sp) : Prop :=
  ∃ (f : Addr) (fd : FuncData), FnOk P w K mg base CX0 j f fd ps sp ∧ mg x = some (.ref f) ∧ PySem.W.keepIn K (.ref f) = true ∧ Binds K fd ps []
section
variable {X : Cx} {e : Expr} {es : List Expr} {t : TA} {p pos : Pos}
theorem pe_dn {k j : Nat} {x : Str} {ps : List Str} {sp : Sp} (D : Dn X.prog X.w X.K X.mg X.base j x ps sp) (hr : Room k X.A) (ha : PA X (e :: es) t) (hjk : j ≤ k := by decide) (hg : Gl X x := by rfl)
    (hdb : (x == ("__debug__" : Str)) = false := by decide) (he : starEach (e :: es) X.env = (false, eval e X.env) :: starEach es X.env := by rfl) (hpl : (backTo pos (starEach es X.env)).any (·.1) = false := by rfl) :
    PE X (.Call (.Name x p) (e :: es) [] pos) (tCall sp [] E0 t) := by
  obtain ⟨f, fd, G, hm, hk, hb⟩ := D
  exact pe_call G (hr.mono hjk) hg hm hk hb .nil pass0 ha hdb he hpl
end
end Z
set_option maxHeartbeats 4000000
namespace Z
open PySem PySem.Spec PyProof.Rows L2
def obsRG (n : Nat) (fa : List FaK) (fn : List He.DefD) (g : Addr → Option Obj) : He.AlD := obsX fa fn (He.frG g (List.range n))
def hookR (n : Nat) (fa : List FaK) (fn : List He.DefD) : PySem.W.Hook where
  α := He.AlD
  obs := fun s => obsRG n fa fn s.heap.get?
  val := fun _ => He.valD fn
  says := fun _ h => ∃ K : PySem.W.Frag, K.In h ∧ SaysX fa fn K
  of := fun _ _ e => ⟨_, He.frG_in, e⟩
  keeps := fun _ _ _ ⟨K, hK, c⟩ k => ⟨K, PySem.W.Frag.In.keeps hK k, c⟩
theorem obsRG_eq {n : Nat} {fa : List FaK} {fn : List He.DefD} {g : Addr → Option Obj} {s : Shared} (h : ∀ a, g a = s.heap.get? a) : obsRG n fa fn g = (hookR n fa fn).obs s := by
  have e : g = s.heap.get? := funext h
  rw [e] <;> rfl
end Z
namespace Z
theorem map3 {α β γ δ : Type} {o : Option α} {f : α → β} {g : α → γ} {h : α → δ} {a : β} {b : γ} {c : δ} (h1 : o.map f = some a) (h2 : o.map g = some b) (h3 : o.map h = some c) : o.map (fun x => (f x, g x, h x)) = some (a, b, c) := by
  cases o with
  | none => cases h1
  | some x =>
    cases h1
    cases h2
    cases h3
    rfl
open PySem PySem.Spec PyProof.Rows L2
/-- two parts of the facts -/
theorem obs_cat {α : Type} {o : Option α} {F : α → Addr → Option Obj} {n : Nat} {fa1 fa2 : List FaK} {fn1 fn2 : List He.DefD} (h1 : o.map (fun x => obsRG n fa1 fn1 (F x)) = some (He.valD fn1)) (h2 : o.map (fun x => obsRG n fa2 fn2 (F x)) = some (He.valD fn2)) :
    o.map (fun x => obsRG n (fa1 ++ fa2) (fn1 ++ fn2) (F x)) = some (He.valD (fn1 ++ fn2)) := by
  cases o with
  | none => cases h1
  | some x =>
    have e1 : obsRG n fa1 fn1 (F x) = He.valD fn1 := Option.some.inj h1
    have e2 : obsRG n fa2 fn2 (F x) = He.valD fn2 := Option.some.inj h2
    refine congrArg some ?_
    have a1 := (Prod.mk.inj e1)
    have a2 := (Prod.mk.inj e2)
    obtain ⟨b1, c1⟩ := He.ba a1.1
    obtain ⟨b2, c2⟩ := He.ba a2.1
    refine Prod.ext ?_ ?_
    · show (((fa1 ++ fa2).all fun f => f _) && (fn1 ++ fn2).all fun d => d.ok _) = true
      rw [List.all_append, List.all_append, b1, b2, c1, c2]
      rfl
    · show (fn1 ++ fn2).map _ = (fn1 ++ fn2).map _
      rw [List.map_append, List.map_append]
      exact congr (congrArg _ a1.2) a2.2
end Z
set_option maxHeartbeats 4000000
namespace Z
open PySem PySem.Spec PyProof.Rows L2
def penK (c : Addr) (a l : Int) : List (Key × V) := [(.inr "cells", .ref c), (.inr "at", .int a), (.inr "left", .int l)]
theorem key_ne {x y : Str} (h : ¬ x = y) : ¬ ((Sum.inr x : Key) = Sum.inr y) := fun q => h (Sum.inr.inj q)
theorem ca_ : ¬ (("cells" : Str) = "at") := by decide +kernel
theorem cl_ : ¬ (("cells" : Str) = "left") := by decide +kernel
theorem al_ : ¬ (("at" : Str) = "left") := by decide +kernel
theorem penK_cells (c : Addr) (a l : Int) : valV (penK c a l) (Sum.inr "cells" : Key) = some (.ref c) := valV_pos rfl
theorem penK_at (c : Addr) (a l : Int) : valV (penK c a l) (Sum.inr "at" : Key) = some (.int a) := by
  unfold penK
  rw [valV_neg (key_ne ca_)]
  exact valV_pos rfl
theorem penK_left (c : Addr) (a l : Int) : valV (penK c a l) (Sum.inr "left" : Key) = some (.int l) := by
  unfold penK
  rw [valV_neg (key_ne cl_), valV_neg (key_ne al_)]
  exact valV_pos rfl
theorem penK_put_at (c : Addr) (a l b : Int) : putK (penK c a l) (Sum.inr "at" : Key) (.int b) = penK c b l := by
  unfold putK
  rw [valV_any, penK_at, if_pos (show (some (V.int a)).isSome = true from rfl)]
  unfold penK
  simp only [List.map_cons, List.map_nil, if_neg (key_ne ca_), if_neg (key_ne (fun q => al_ q.symm)), if_true]
theorem penK_put_left (c : Addr) (a l b : Int) : putK (penK c a l) (Sum.inr "left" : Key) (.int b) = penK c a b := by
  unfold putK
  rw [valV_any, penK_left, if_pos (show (some (V.int l)).isSome = true from rfl)]
  unfold penK
  simp only [List.map_cons, List.map_nil, if_neg (key_ne cl_), if_neg (key_ne al_), if_true]
/-- a pen stands at p; at most t numbers were drawn -/
def Pen (H : Hp) (p : Addr) (t : Nat) : Prop := ∃ (c : Addr) (ns : List Int) (a l : Int), H p = some (.dK (penK c a l)) ∧ H c = some (.lst (ns.map V.int)) ∧ ns.length ≤ 63 ∧ 0 ≤ a ∧ a ≤ (t : Int) ∧ 0 ≤ l
/-- all but p is as it was -/
def Keep (p : Addr) (H H' : Hp) : Prop := ∀ a o, a ≠ p → H a = some o → H' a = some o
theorem Keep.refl (p : Addr) (H : Hp) : Keep p H H := fun _ _ _ h => h
theorem Keep.trans {p : Addr} {H H1 H2 : Hp} (a : Keep p H H1) (b : Keep p H1 H2) : Keep p H H2 := fun c o n h => b c o n (a c o n h)
theorem Keep.of {p : Addr} {H H' : Hp} (s : Same H H') : Keep p H H' := fun a o _ h => s a o h
theorem Keep.upd {p : Addr} {H H1 : Hp} (o : HO) (k : Keep p H H1) : Keep p H (upd H1 p o) := fun a u n h => by
  rw [upd_ne n]
  exact k a u n h
theorem Keep.new {p l : Addr} {H H1 : Hp} (o : HO) (k : Keep p H H1) (hl : H1 l = none) : Keep p H (L2.upd H1 l o) := fun a u n h => by
  have q := k a u n h
  rw [upd_ne (ne_of_none q hl)]
  exact q
theorem Same.new {l : Addr} {H H1 : Hp} (o : HO) (k : Same H H1) (hl : H1 l = none) : Same H (upd H1 l o) := fun a u h => by
  have q := k a u h
  rw [upd_ne (ne_of_none q hl)]
  exact q
theorem Pen.mono {H : Hp} {p : Addr} {t t' : Nat} (h : Pen H p t) (e : t ≤ t') : Pen H p t' := by
  obtain ⟨c, ns, a, l, h1, h2, h3, h4, h5, h6⟩ := h
  exact ⟨c, ns, a, l, h1, h2, h3, h4, by omega, h6⟩
/-- a pen is not touched where all stands -/
theorem Pen.same {H H' : Hp} {p : Addr} {t : Nat} (h : Pen H p t) (s : Same H H') : Pen H' p t := by
  obtain ⟨c, ns, a, l, h1, h2, h3⟩ := h
  exact ⟨c, ns, a, l, s _ _ h1, s _ _ h2, h3⟩
/-- what is no dict is not the pen -/
theorem Pen.ne {H : Hp} {p a : Addr} {t : Nat} {o : HO} (h : Pen H p t) (e : H a = some o) (d : ∀ kvs, o ≠ .dK kvs) : a ≠ p := by
  obtain ⟨c, ns, x, l, h1, _⟩ := h
  exact ne_of e h1 (d _)
def spPen (K : PySem.W.Frag) : Sp := fun vs H Q _ => ∃ (a : Addr) (ns : List Int), vs = [.ref a] ∧ SqL K H a (ns.map V.int) ∧ ns.length ≤ 63 ∧ ∀ H' p, Same H H' → H p = none → Pen H' p 0 → Q (.ref p) H'
def spPick : Sp := fun vs H Q _ => ∃ (p l : Addr) (xs : List V) (t : Nat), vs = [.ref p, .ref l] ∧ H l = some (.lst xs) ∧ 0 < xs.length ∧ xs.length < 1000 ∧ t < 1000000000 ∧ Pen H p t ∧
  ∀ H' (i : Nat) (v : V), xs[i]? = some v → Pen H' p (t + 1) → Keep p H H' → Q v H'
theorem fmod_range {x m : Int} (h : 0 < m) : 0 ≤ x.fmod m ∧ x.fmod m < m := by
  rw [Int.fmod_eq_emod_of_nonneg _ (Int.le_of_lt h)]
  exact ⟨Int.emod_nonneg _ (by omega), Int.emod_lt_of_pos _ h⟩
theorem fdiv_nn {x m : Int} (hx : 0 ≤ x) (h : 0 < m) : 0 ≤ x.fdiv m := by
  rw [Int.fdiv_eq_ediv_of_nonneg _ (Int.le_of_lt h)]
  exact Int.ediv_nonneg hx (Int.le_of_lt h)
theorem mul_okf {x m : Int} (h : 0 < m) (hm : m ≤ 2147483648) : -(2 ^ 64) < x.fmod m ∧ x.fmod m < 2 ^ 64 := by
  have := fmod_range (x := x) h
  omega
theorem mul_okf1 {x m : Int} (h : 0 < m) (hm : m ≤ 2147483648) : -(2 ^ 64) < x.fmod m + 1 ∧ x.fmod m + 1 < 2 ^ 64 := by
  have := fmod_range (x := x) h
  omega
section
variable {H : Hp} {p c : Addr} {a l b : Int}
theorem pen_left (h : H p = some (.dK (penK c a l))) : DGet H p (.str "left") (some (.int l)) := by
  have z := DGet.k (k := (Sum.inr "left" : Key)) h
  rw [penK_left] at z
  exact z
theorem pen_at (h : H p = some (.dK (penK c a l))) : DGet H p (.str "at") (some (.int a)) := by
  have z := DGet.k (k := (Sum.inr "at" : Key)) h
  rw [penK_at] at z
  exact z
theorem pen_cells (h : H p = some (.dK (penK c a l))) : DGet H p (.str "cells") (some (.ref c)) := by
  have z := DGet.k (k := (Sum.inr "cells" : Key)) h
  rw [penK_cells] at z
  exact z
theorem pen_put_left (b : Int) (h : H p = some (.dK (penK c a l))) : DPut H p (.str "left") (.int b) (upd H p (.dK (penK c a b))) := by
  have z := DPut.k (k := (Sum.inr "left" : Key)) (v := .int b) h (show 3 < sizeLine by decide)
  rw [penK_put_left] at z
  exact z
theorem pen_put_at (b : Int) (h : H p = some (.dK (penK c a l))) : DPut H p (.str "at") (.int b) (upd H p (.dK (penK c b l))) := by
  have z := DPut.k (k := (Sum.inr "at" : Key)) (v := .int b) h (show 3 < sizeLine by decide)
  rw [penK_put_at] at z
  exact z
end
theorem lst_ne_dK {xs : List V} {kvs : List (Key × V)} : HO.lst xs ≠ .dK kvs := fun z => by cases z
/-- data: a list of ints -/
theorem dpAll_ints {K : PySem.W.Frag} {H : Hp} : ∀ ns : List Int, DpAll K H (ns.map V.int) (ns.map PyData.int)
  | [] => .nil
  | _ :: ns => .cons (.int _) (dpAll_ints ns)
theorem canLay_ints : ∀ ns : List Int, PyData.canLayAll0 (ns.map PyData.int) = true
  | [] => by simp [PyData.canLayAll0]
  | _ :: ns => by simp [PyData.canLayAll0, PyData.canLay0, canLay_ints ns]
theorem depth_ints : ∀ ns : List Int, PyData.depthAll (ns.map PyData.int) = 0
  | [] => by simp [PyData.depthAll]
  | _ :: ns => by simp [PyData.depthAll, PyData.depth, depth_ints ns]
theorem shaped_ints (ns : List Int) : SeqAt.shaped (.list (ns.map PyData.int)) = true := by
  simp [SeqAt.shaped, PyData.canLay0, canLay_ints, PyData.depth, depth_ints]
theorem shaped_nil : SeqAt.shaped (.list []) = true := shaped_ints []
theorem eqv_ints_nil (ns : List Int) : PyData.eqv (.list (ns.map PyData.int)) (.list []) = ns.isEmpty := by
  cases ns <;> simp [PyData.eqv, PyData.eqvAll]
theorem get_ints {ns : List Int} {i : Nat} (h : i < ns.length) : (ns.map V.int)[i]? = some (.int (ns[i]'h)) := by
  rw [List.getElem?_map, List.getElem?_eq_getElem h]
  rfl
end Z
set_option maxHeartbeats 4000000
namespace Z
open PySem PySem.W PySem.Calls PyProof.Rows
end Z
set_option maxHeartbeats 4000000
namespace Z
open PySem PySem.Spec PyProof.Rows L2
/-- what is asked of a class whose instances stand beside ints -/
def opiB (K : PySem.W.Frag) (C : Addr) (nm : String) : Bool :=
  PySem.W.selfFirst K C && ((match PySem.W.findIn K (.ref C) (dunderR nm) with
    | some none => true
    | some (some (.ref _)) => true
    | _ => false) && ((PySem.W.findIn K (.type "int") (dunder nm)).isSome && ((PySem.W.findIn K (.type "int") (dunderR nm)).isSome && (decide (PySem.W.subIn K (.type "int") (.ref C) = some false) && decide (PySem.W.subIn K (.ref C) (.type "int") = some false)))))
structure OpI (K : PySem.W.Frag) (C : Addr) (nm : String) : Prop where
  sf : PySem.W.selfFirst K C = true
  rr : ∃ rc, PySem.W.findIn K (.ref C) (dunderR nm) = some rc ∧ (rc = none ∨ ∃ g : Addr, rc = some (.ref g))
  i1 : ∃ fo, PySem.W.findIn K (.type "int") (dunder nm) = some fo
  i2 : ∃ fo, PySem.W.findIn K (.type "int") (dunderR nm) = some fo
  s1 : PySem.W.subIn K (.type "int") (.ref C) = some false
  s2 : PySem.W.subIn K (.ref C) (.type "int") = some false
theorem opiB_ok {K : PySem.W.Frag} {C : Addr} {nm : String} (h : opiB K C nm = true) : OpI K C nm := by
  obtain ⟨h1, h⟩ := He.ba h
  obtain ⟨h2, h⟩ := He.ba h
  obtain ⟨h3, h⟩ := He.ba h
  obtain ⟨h4, h⟩ := He.ba h
  obtain ⟨h5, h6⟩ := He.ba h
  refine ⟨h1, ?_, Option.isSome_iff_exists.mp h3, Option.isSome_iff_exists.mp h4, of_decide_eq_true h5, of_decide_eq_true h6⟩
  cases e : PySem.W.findIn K (.ref C) (dunderR nm) with
  | none =>
    rw [e] at h2
    cases h2
  | some o =>
    rw [e] at h2
    cases o with
    | none => exact ⟨_, rfl, .inl rfl⟩
    | some v =>
      cases v with
      | ref g => exact ⟨_, rfl, .inr ⟨g, rfl⟩⟩
      | _ => cases h2
section
variable {X : Cx}
theorem ins_at {pins : List (Addr × Obj)} {σ : L2.St} {H : Hp} {s : Shared} {a C dx : Addr} {fs : List (Str × V)} (I : L2.Inv X pins σ H s) (e : H a = some (.ins C dx fs)) : ∃ od, PySem.W.InstAt s.heap a (PySem.W.instObj C dx) C (some od) := by
  obtain ⟨mA, O, _⟩ := ins_get I.hok e
  obtain ⟨od, J, _⟩ := O.look
  exact ⟨od, J⟩
end
end Z
set_option maxHeartbeats 4000000
namespace Z
open PySem PySem.Spec PyProof.Rows L2
theorem Same.keep {H H1 H' : Hp} {a : Addr} {o : HO} (s : Same H H1) (ha : H1 a = none) (kp : Keep a (upd H1 a o) H') : Same H H' := fun b u e => by
  have q := s b u e
  have nb : b ≠ a := ne_of_none q ha
  exact kp b u nb (by rw [upd_ne nb]; exact q)
/-- behind a new instance -/
theorem Same.made {H H1 H' : Hp} {x dx C : Addr} (s : Same H H1) (nx : H1 x = none) (nd : H1 dx = none) (kp : Keep x (upd (upd H1 dx (.own x)) x (.ins C dx [])) H') : Same H H' := fun b u e => by
  have q := s b u e
  have nb : b ≠ x := ne_of_none q nx
  have nd' : b ≠ dx := ne_of_none q nd
  exact kp b u nb (by rw [upd_ne nb, upd_ne nd']; exact q)
theorem in_ : ¬ (("i" : Str) = "n") := by decide +kernel
theorem io_ : ¬ (("i" : Str) = "one") := by decide +kernel
theorem no_ : ¬ (("n" : Str) = "one") := by decide +kernel
theorem sd_ : ¬ (("straight" : Str) = "divisor") := by decide +kernel
theorem len1 (f : Str) (v : V) : (putF f v []).length < 1000 := Nat.lt_of_le_of_lt (length_putF f v []) (by decide)
theorem len2 (f g : Str) (v u : V) : (putF f v (putF g u [])).length < 1000 := Nat.lt_of_le_of_lt (Nat.le_trans (length_putF f v _) (Nat.add_le_add_right (length_putF g u []) 1)) (by decide)
def sf (a b c : Int) : List (Str × V) := putF "one" (.int c) (putF "n" (.int b) (putF "i" (.int a) []))
theorem sf_i (a b c : Int) : (sf a b c).lookup ("i" : Str) = some (.int a) := by
  unfold sf
  rw [lookup_putF, if_neg io_, lookup_putF, if_neg in_, lookup_putF, if_pos rfl]
theorem sf_n (a b c : Int) : (sf a b c).lookup ("n" : Str) = some (.int b) := by
  unfold sf
  rw [lookup_putF, if_neg no_, lookup_putF, if_pos rfl]
theorem sf_one (a b c : Int) : (sf a b c).lookup ("one" : Str) = some (.int c) := by
  unfold sf
  rw [lookup_putF, if_pos rfl]
def pf (q : Addr) (d : Int) : List (Str × V) := putF "divisor" (.int d) (putF "straight" (.ref q) [])
theorem pf_s (q : Addr) (d : Int) : (pf q d).lookup ("straight" : Str) = some (.ref q) := by
  unfold pf
  rw [lookup_putF, if_neg sd_, lookup_putF, if_pos rfl]
theorem pf_d (q : Addr) (d : Int) : (pf q d).lookup ("divisor" : Str) = some (.int d) := by
  unfold pf
  rw [lookup_putF, if_pos rfl]
section
variable (K : PySem.W.Frag)
abbrev CS : Addr := He.ga K "Straight"
abbrev CP : Addr := He.ga K "Place"
def StrAt (H : Hp) (p : Addr) (a b c : Int) : Prop := ∃ dx, H p = some (.ins (CS K) dx (sf a b c))
def PlcAt (H : Hp) (p : Addr) (a b c d : Int) : Prop := ∃ dx q, H p = some (.ins (CP K) dx (pf q d)) ∧ StrAt K H q a b c
/-- a sum, or an int in its place -/
def SumV (H : Hp) (v : V) (a b c : Int) : Prop := (∃ p, v = .ref p ∧ StrAt K H p a b c) ∨ (v = .int c ∧ a = 0 ∧ b = 0)
end
variable {K : PySem.W.Frag}
theorem StrAt.same {H H' : Hp} {p : Addr} {a b c : Int} (h : StrAt K H p a b c) (s : Same H H') : StrAt K H' p a b c := by
  obtain ⟨dx, h⟩ := h
  exact ⟨dx, s _ _ h⟩
theorem PlcAt.same {H H' : Hp} {p : Addr} {a b c d : Int} (h : PlcAt K H p a b c d) (s : Same H H') : PlcAt K H' p a b c d := by
  obtain ⟨dx, q, h, h2⟩ := h
  exact ⟨dx, q, s _ _ h, h2.same s⟩
theorem SumV.same {H H' : Hp} {v : V} {a b c : Int} (h : SumV K H v a b c) (s : Same H H') : SumV K H' v a b c := by
  rcases h with ⟨p, e, h⟩ | h
  · exact .inl ⟨p, e, h.same s⟩
  · exact .inr h
theorem StrAt.keep {H H' : Hp} {p q : Addr} {a b c : Int} {t : Nat} (h : StrAt K H p a b c) (hp : Pen H q t) (k : Keep q H H') : StrAt K H' p a b c := by
  obtain ⟨dx, h⟩ := h
  exact ⟨dx, k _ _ (hp.ne h fun _ z => by cases z) h⟩
theorem PlcAt.keep {H H' : Hp} {p q : Addr} {a b c d : Int} {t : Nat} (h : PlcAt K H p a b c d) (hp : Pen H q t) (k : Keep q H H') : PlcAt K H' p a b c d := by
  obtain ⟨dx, r, h, h2⟩ := h
  exact ⟨dx, r, k _ _ (hp.ne h fun _ z => by cases z) h, h2.keep hp k⟩
/-- small enough to be multiplied by anything -/
def Sm (i : Int) : Prop := -(2 ^ 64) < i ∧ i < 2 ^ 64
structure Inx (K : PySem.W.Frag) (C : Addr) : Prop where
  ha : PySem.W.findIn K (.ref C) "__class__" = some (some (.builtin "object.__class__"))
  hn : PySem.W.specialIn K (.builtin "object.__class__") "__get__" = some (some (.builtin "getset_descriptor.__get__"))
  ht : PySem.W.takesIn K (.builtin "object.__class__") = some true
  hm : PySem.W.mroIn K C (.type "object") = some true
structure StTx (K : PySem.W.Frag) (mg : Str → Option Value) : Prop where
  gS : mg "Straight" = some (.ref (CS K))
  clS : Cls K (CS K)
  mkS : Mk K (CS K) (He.ma K (CS K) "__init__")
  ixS : Inx K (CS K)
  nI : NoAttr K (CS K) "i"
  nN : NoAttr K (CS K) "n"
  nO : NoAttr K (CS K) "one"
  kSi : PySem.W.kitOne K (.ref (CS K)) (.type "int") = some false
  kSS : PySem.W.kitOne K (.ref (CS K)) (.ref (CS K)) = some true
  kiS : PySem.W.kitOne K (.type "int") (.ref (CS K)) = some false
  isi : mg "isinstance" = none
  int : mg "int" = none
  bool : mg "bool" = none
theorem StTx.ty {mg : Str → Option Value} (T : StTx K mg) {H : Hp} {p : Addr} {a b c : Int} (h : StrAt K H p a b c) : TyOf K H (.ref p) (.ref (CS K)) := by
  obtain ⟨dx, h⟩ := h
  exact .ins h T.clS T.ixS.ha T.ixS.hn T.ixS.ht T.ixS.hm
theorem kii {K : PySem.W.Frag} : PySem.W.kitOne K (.type "int") (.type "int") = some true := kit_ty (by decide +kernel)
theorem kib {K : PySem.W.Frag} : PySem.W.kitOne K (.type "int") (.type "bool") = some false := kit_ty (by decide +kernel)
section
variable (K : PySem.W.Frag)
def spSI : Sp := fun vs H Q _ => ∃ (p dx : Addr) (a b c : Int), vs = [.ref p, .int a, .int b, .int c] ∧ H p = some (.ins (CS K) dx []) ∧ ∀ H', H' p = some (.ins (CS K) dx (sf a b c)) → Keep p H H' → Q .non H'
/-- a new sum is handed back -/
def NewS (H : Hp) (a b c : Int) (Q : VK) : Prop := ∀ p H', Same H H' → H p = none → StrAt K H' p a b c → Q (.ref p) H'
def spIsInt : Sp := fun vs H Q _ => ∃ v, vs = [v] ∧ ((∃ i, v = .int i ∧ Q (.bl true) H) ∨ ∃ p a b c, v = .ref p ∧ StrAt K H p a b c ∧ Q (.bl false) H)
def spLike : Sp := fun vs H Q _ => ∃ v a b c, vs = [v] ∧ SumV K H v a b c ∧ ∀ p H', Same H H' → StrAt K H' p a b c → Q (.ref p) H'
def spVal : Sp := fun vs H Q _ => ∃ (p : Addr) (a b c i n : Int), vs = [.ref p, .int i, .int n] ∧ StrAt K H p a b c ∧ Sm a ∧ Sm b ∧ Q (.int (a * i + b * n + c)) H
end
end Z
set_option maxHeartbeats 4000000
namespace Z
open PySem PySem.Spec PyProof.Rows L2
end Z
set_option maxHeartbeats 4000000
namespace Z
open PySem PySem.Spec PyProof.Rows L2
def Bd (n : Nat) (x : Int) : Prop := x.natAbs < 2 ^ n
theorem Bd.mono {n m : Nat} {x : Int} (h : Bd n x) (e : n ≤ m) : Bd m x := Nat.lt_of_lt_of_le h (Nat.pow_le_pow_right (by decide) e)
theorem Bd.sub {n : Nat} {x y : Int} (h : Bd n x) (g : Bd n y) : Bd (n + 1) (x - y) := by
  unfold Bd at *
  rw [Nat.pow_succ]
  omega
theorem Bd.of {n : Nat} {x : Int} (N : Nat) (hN : N < 2 ^ n) (h1 : -(N : Int) ≤ x) (h2 : x ≤ (N : Int)) : Bd n x := by
  unfold Bd
  omega
end Z
set_option maxHeartbeats 4000000
namespace Z
open PySem PySem.Spec PyProof.Rows L2
section
variable {X : Cx} {CX : CXT} {k : Nat} {f C : Addr} {fd : FuncData} {ps : List Str} {sp : Sp} {E : XK}
theorem make_at {pins : List (Addr × Obj)} {σ : L2.St} {H : Hp} {s : Shared} {Q : VK} {us : List Value} {vs : List V} (M : Mk X.K C f) (F : FnOk X.prog X.w X.K X.mg X.base CX k f fd ps sp) (hr : Room (k + 1) X.A) (hb : Binds X.K fd ps [])
    (hx : PassesAt CX X σ E) (I : L2.Inv X pins σ H s) (r : Vals vs us)
    (h : ∀ x dx, H x = none → H dx = none → dx ≠ x → sp (.ref x :: vs) (upd (upd H dx (.own x)) x (.ins C dx [])) (fun v H2 => v = .non ∧ Q (.ref x) H2) E) :
    wpAny (model X.prog X.w) X.A (call (.ref C) us) (EP X pins σ Q) X.xe s := by
  have q0 := h (s.heap.objs.size + 1) s.heap.objs.size (I.hok.fresh (Nat.le_succ _)) (I.hok.fresh (Nat.le_refl _)) (Nat.ne_of_lt (Nat.lt_succ_self _))
  have J := Inv.made (C := C) I
  have rr : Vals (V.ref (s.heap.objs.size + 1) :: vs) (Value.ref (s.heap.objs.size + 1) :: us) := .cons rfl r
  have len : (Value.ref (s.heap.objs.size + 1) :: us).length = ps.length := by
    have e := rr.length
    rw [F.len _ _ _ _ q0] at e
    exact e.symm
  have bb := hb _ (Value.ref (s.heap.objs.size + 1) :: us) J.kIn (by rw [List.append_nil]; exact len)
  rw [List.append_nil] at bb
  refine wpAny_call (make_map (f := f) I.kIn M.makes M.init (beq_iff_eq.mp M.fn) (codeAny_mono (F.run _ X.stack _ _ ⟨Value.ref (s.heap.objs.size + 1) :: us, []⟩ (Value.ref (s.heap.objs.size + 1) :: us) _ _ E (hr.make C us [])
    (J.env0.make C us []) bb rr q0) fun r' s' z => ?_))
  cases r' with
  | error e => exact hx pins _ _ e s' J z
  | ok fl =>
    cases fl with
    | ret u =>
      obtain ⟨v, H', I3, rv, ev, q3⟩ := J.after z
      subst ev
      exact ⟨rv, ⟨V.ref (s.heap.objs.size + 1), H', I3, rfl, q3⟩⟩
    | next => exact False.elim z
    | brk => exact False.elim z
    | cont => exact False.elim z
theorem at_E0 (σ : L2.St) : PassesAt (L2.CX X.prog X.w) X σ E0 := fun pins H s e s' I h => passL pins σ H s e s' I h
end
def spErr (K : PySem.W.Frag) (x : Str) (fs : List Str) : Sp := fun vs H Q _ => ∃ (a : Addr) (ws : List V), vs = .ref a :: ws ∧ ws.length = fs.length ∧ H a = some (exo a (He.ga K x) none) ∧
  ∀ (d : Addr) (H' : Hp), H d = none → H' a = some (exo a (He.ga K x) (some d)) → H' d = some (exd d (fs.zip ws).reverse) → Keep a H H' → Q .non H'
structure EC (K : PySem.W.Frag) (mg : Str → Option Value) (x : Str) (fs : List Str) : Prop where
  gC : mg x = some (.ref (He.ga K x))
  ox : OexC K (He.ga K x)
  ex : Exk K (He.ga K x)
  iC : PySem.W.findIn K (.ref (He.ga K x)) "__init__" = some (some (.ref (He.ma K (He.ga K x) "__init__")))
  tI : PySem.W.typeIn K (.ref (He.ma K (He.ga K x) "__init__")) = some (.type "function")
  na : ∀ f ∈ fs, PySem.W.findIn K (.ref (He.ga K x)) f = some none
theorem list2 {ws : List V} (h : ws.length = 2) : ∃ y z, ws = [y, z] := match ws, h with | [y, z], _ => ⟨y, z, rfl⟩
theorem list1 {ws : List V} (h : ws.length = 1) : ∃ y, ws = [y] := match ws, h with | [y], _ => ⟨y, rfl⟩
theorem list3 {ws : List V} (h : ws.length = 3) : ∃ y z u, ws = [y, z, u] := match ws, h with | [y, z, u], _ => ⟨y, z, u, rfl⟩
section
variable {K : PySem.W.Frag} {mg : Str → Option Value} {x f1 f2 f3 n0 n1 n2 n3 : Str} {vs : List V} {H : Hp} {Q : VK} {E : XK}
theorem keep1 {a d : Addr} {o u : HO} (hd : H d = none) : Keep a H (upd (upd H d o) a u) := Keep.upd _ (Keep.new _ (Keep.refl a H) hd)
theorem rd_err1 (M : EC K mg x [f1]) (h : spErr K x [f1] vs H Q E) :
    tOst K f1 (tVar 0) (tVar 1) { nx := fun _ H' => Q .non H', rt := Q } (L2.start [n0, n1] vs) H := by
  obtain ⟨a, ws, rfl, hl, ha, k⟩ := h
  obtain ⟨y, rfl⟩ := list1 hl
  refine ⟨_, rfl, _, rfl, a, _, rfl, M.ox, M.na _ (by simp), .inl ⟨ha, fun d hd nd => ?_⟩⟩
  exact k d _ hd upd_same (by rw [upd_ne nd, upd_same]; rfl) (keep1 hd)
theorem rd_err2 (M : EC K mg x [f1, f2]) (h : spErr K x [f1, f2] vs H Q E) :
    tSeq (tOst K f1 (tVar 0) (tVar 1)) (tOst K f2 (tVar 0) (tVar 2)) { nx := fun _ H' => Q .non H', rt := Q } (L2.start [n0, n1, n2] vs) H := by
  obtain ⟨a, ws, rfl, hl, ha, k⟩ := h
  obtain ⟨y, z, rfl⟩ := list2 hl
  refine ⟨_, rfl, _, rfl, a, _, rfl, M.ox, M.na _ (by simp), .inl ⟨ha, fun d hd nd => ?_⟩⟩
  refine ⟨_, rfl, _, rfl, a, _, rfl, M.ox, M.na _ (by simp), .inr ⟨d, [(f1, y)], upd_same, (by rw [upd_ne nd, upd_same]), (by show 1 ≤ 900; decide), ?_⟩⟩
  refine k d _ hd (by rw [upd_ne nd.symm, upd_same]) upd_same fun b u nb e => ?_
  rw [upd_ne (ne_of_none e hd)]
  exact keep1 hd b u nb e
theorem rd_err3 (M : EC K mg x [f1, f2, f3]) (h : spErr K x [f1, f2, f3] vs H Q E) :
    tSeq (tOst K f1 (tVar 0) (tVar 1)) (tSeq (tOst K f2 (tVar 0) (tVar 2)) (tOst K f3 (tVar 0) (tVar 3))) { nx := fun _ H' => Q .non H', rt := Q } (L2.start [n0, n1, n2, n3] vs) H := by
  obtain ⟨a, ws, rfl, hl, ha, k⟩ := h
  obtain ⟨y, z, u, rfl⟩ := list3 hl
  refine ⟨_, rfl, _, rfl, a, _, rfl, M.ox, M.na _ (by simp), .inl ⟨ha, fun d hd nd => ?_⟩⟩
  refine ⟨_, rfl, _, rfl, a, _, rfl, M.ox, M.na _ (by simp), .inr ⟨d, [(f1, y)], upd_same, (by rw [upd_ne nd, upd_same]), (by show 1 ≤ 900; decide), ?_⟩⟩
  refine ⟨_, rfl, _, rfl, a, _, rfl, M.ox, M.na _ (by simp), .inr ⟨d, [(f2, z), (f1, y)], (by rw [upd_ne nd.symm, upd_same]), upd_same, (by show 2 ≤ 900; decide), ?_⟩⟩
  refine k d _ hd (by rw [upd_ne nd.symm, upd_ne nd.symm, upd_same]) upd_same fun b v nb e => ?_
  rw [upd_ne (ne_of_none e hd), upd_ne (ne_of_none e hd)]
  exact keep1 hd b v nb e
end
/-- an error class that may be raised -/
def Mx (P : Program) (w : World) (K : PySem.W.Frag) (mg : Str → Option Value) (base : Heap) (x : Str) (ps fs : List Str) : Prop :=
  EC K mg x fs ∧ ∃ fd, FnOk P w K mg base CX0 1 (He.ma K (He.ga K x) "__init__") fd ps (spErr K x fs) ∧ Binds K fd ps []
section
variable {X : Cx} {e : Expr} {es : List Expr} {t : TA} {p pos pos2 : Pos} {W : WX}
theorem pmk_err {k : Nat} {x : Str} {ps fs : List Str} (M : Mx X.prog X.w X.K X.mg X.base x ps fs) (hr : Room k X.A) (ha : PA X (e :: es) t) (hk : 2 ≤ k := by decide) (hg : Gl X x := by rfl)
    (hdb : (x == ("__debug__" : Str)) = false := by decide) (he : starEach (e :: es) X.env = (false, eval e X.env) :: starEach es X.env := by rfl) (hpl : (backTo pos (starEach es X.env)).any (·.1) = false := by rfl) :
    PMk X (.Call (.Name x p) (e :: es) [] pos) (tMkO (He.ga X.K x) (spErr X.K x fs) [] t) := by
  obtain ⟨T, fd, F, hb⟩ := M
  exact pmk_oex (CX := CX0) (dvs := []) (ds := []) T.ox T.iC T.tI F (hr.mono hk) hb .nil pass0 hg T.gC ha hdb he hpl
/-- the reading of such a raise behind its arguments: the new dict holds the fields, all else is as it was -/
theorem err_go {K : PySem.W.Frag} {x : Str} {fs : List Str} {vs : List V} {H1 : Hp} {Q : XK} (hl : vs.length ≤ 1000) (hlf : vs.length = fs.length)
    (w : ∀ d H', Same H1 H' → H' d = some (.xd (fs.zip vs).reverse) → Q (.ref (He.ga K x)) (some d) H') :
    vs.length ≤ 1000 ∧ ∀ a, H1 a = none → spErr K x fs (.ref a :: (vs ++ [])) (upd H1 a (exo a (He.ga K x) none))
      (fun v H2 => v = .non ∧ ∃ (d : Addr) (fs' : List (Str × V)), H2 a = some (exo a (He.ga K x) (some d)) ∧ H2 d = some (exd d fs') ∧ H1 d = none ∧ Q (.ref (He.ga K x)) (some d) (upd (del H2 a) d (.xd fs'))) (fun _ _ _ => False) := by
  refine ⟨hl, fun a ha => ?_⟩
  rw [List.append_nil]
  refine ⟨a, vs, rfl, hlf, upd_same, fun d H' hd hA hD kp => ⟨rfl, d, _, hA, hD, ?_, w d _ (fun b u e => ?_) upd_same⟩⟩
  · have n : d ≠ a := fun z => by
      rw [z, upd_same] at hd
      cases hd
    rw [upd_ne n] at hd
    exact hd
  · have nb : b ≠ a := ne_of_none e ha
    have nd : b ≠ d := fun z => by
      rw [← z, upd_ne nb] at hd
      rw [hd] at e
      cases e
    rw [upd_ne nd, del_ne nb]
    exact kp b u nb (by rw [upd_ne nb]; exact e)
end
def gg (a b d : Int) : Nat := Nat.gcd (Nat.gcd a.natAbs b.natAbs) d.natAbs
abbrev CB (K : PySem.W.Frag) : Addr := He.ga K "BadNumber"
structure PlTx (K : PySem.W.Frag) (mg : Str → Option Value) : Prop extends StTx K mg where
  gP : mg "Place" = some (.ref (CP K))
  clP : Cls K (CP K)
  mkP : Mk K (CP K) (He.ma K (CP K) "__init__")
  ixP : Inx K (CP K)
  nS : NoAttr K (CP K) "straight"
  nD : NoAttr K (CP K) "divisor"
  gcd : mg "gcd" = some (.builtin "math.gcd")
  kPP : PySem.W.kitOne K (.ref (CP K)) (.ref (CP K)) = some true
  kPS : PySem.W.kitOne K (.ref (CP K)) (.ref (CS K)) = some false
  kSP : PySem.W.kitOne K (.ref (CS K)) (.ref (CP K)) = some false
  kiP : PySem.W.kitOne K (.type "int") (.ref (CP K)) = some false
theorem PlTx.pty {K : PySem.W.Frag} {mg : Str → Option Value} (T : PlTx K mg) {H : Hp} {p : Addr} {a b c d : Int} (h : PlcAt K H p a b c d) : TyOf K H (.ref p) (.ref (CP K)) := by
  obtain ⟨dx, q, h, _⟩ := h
  exact .ins h T.clP T.ixP.ha T.ixP.hn T.ixP.ht T.ixP.hm
def bnF (w : Str) (v : V) : List (Str × V) := [("number", v), ("what", .str w)]
section
variable (K : PySem.W.Frag)
/-- the place that is made of a sum and a divisor -/
def NewP (H : Hp) (a b c d : Int) (Q : VK) : Prop := ∀ p H', Same H H' → PlcAt K H' p (a.fdiv (gg a b d)) (b.fdiv (gg a b d)) (c.fdiv (gg a b d)) (d.fdiv (gg a b d)) → Q (.ref p) H'
def BadN (H : Hp) (w : Str) (v : V) (E : XK) : Prop := ∀ e H', Same H H' → H' e = some (.xd (bnF w v)) → E (.ref (CB K)) (some e) H'
def spPCall : Sp := fun vs H Q _ => ∃ (p : Addr) (a b c d i n : Int), vs = [.ref p, .int i, .int n] ∧ PlcAt K H p a b c d ∧ Sm a ∧ Sm b ∧ 0 < d ∧ d < 1073741824 ∧ Q (.int ((a * i + b * n + c).fdiv d)) H
end
end Z
namespace Z
theorem fe {x g : Int} (h : 0 < g) : x.fdiv g = x / g := Int.fdiv_eq_ediv_of_nonneg _ (Int.le_of_lt h)
theorem gg_pos {a b d : Int} (h : 0 < d) : 0 < gg a b d := Nat.gcd_pos_of_pos_right _ (by omega)
theorem gg_le {a b d : Int} (h : 0 < d) : ((gg a b d : Nat) : Int) ≤ d := by
  have := Nat.le_of_dvd (by omega) (Nat.gcd_dvd_right (Nat.gcd a.natAbs b.natAbs) d.natAbs)
  show ((Nat.gcd (Nat.gcd a.natAbs b.natAbs) d.natAbs : Nat) : Int) ≤ d
  omega
theorem gg_dvd (a b d : Int) : ∃ a' b' d', a = (gg a b d : Int) * a' ∧ b = (gg a b d : Int) * b' ∧ d = (gg a b d : Int) * d' := by
  have h1 : ((gg a b d : Nat) : Int) ∣ a := Int.ofNat_dvd_left.mpr (Nat.dvd_trans (Nat.gcd_dvd_left _ _) (Nat.gcd_dvd_left _ _))
  have h2 : ((gg a b d : Nat) : Int) ∣ b := Int.ofNat_dvd_left.mpr (Nat.dvd_trans (Nat.gcd_dvd_left _ _) (Nat.gcd_dvd_right _ _))
  have h3 : ((gg a b d : Nat) : Int) ∣ d := Int.ofNat_dvd_left.mpr (Nat.gcd_dvd_right _ _)
  exact ⟨_, _, _, h1.choose_spec, h2.choose_spec, h3.choose_spec⟩
theorem fmul {g x : Int} (h : 0 < g) : (g * x).fdiv g = x := by
  rw [fe h]
  exact Int.mul_ediv_cancel_left _ (by omega)
theorem fdiv_bd {x M g : Int} (h : 0 < g) (hM : 0 ≤ M) (h1 : -M ≤ x) (h2 : x ≤ M) : -M ≤ x.fdiv g ∧ x.fdiv g ≤ M := by
  rw [fe h]
  have z : M ≤ M * g := by
    have := Int.mul_le_mul_of_nonneg_left (show (1 : Int) ≤ g by omega) hM
    omega
  have z2 : -M * g ≤ x := by
    rw [Int.neg_mul]
    omega
  refine ⟨Int.le_ediv_of_mul_le h z2, ?_⟩
  exact Int.ediv_le_of_le_mul h (by omega)
/-- the divisor of the least form is from 1 on and not above d -/
theorem dv_bd {a b d : Int} (h : 0 < d) : 1 ≤ d.fdiv (gg a b d) ∧ d.fdiv (gg a b d) ≤ d := by
  have g0 : (0 : Int) < (gg a b d : Nat) := by exact_mod_cast gg_pos h
  refine ⟨?_, (fdiv_bd g0 (Int.le_of_lt h) (by omega) (Int.le_refl d)).2⟩
  rw [fe g0]
  exact Int.le_ediv_of_mul_le g0 (by rw [Int.one_mul]; exact gg_le h)
/-- the value of the least form -/
theorem val_least {a b c d i n : Int} (h : 0 < d) : ((a.fdiv (gg a b d)) * i + (b.fdiv (gg a b d)) * n + c.fdiv (gg a b d)).fdiv (d.fdiv (gg a b d)) = (a * i + b * n + c).fdiv d := by
  have dv := dv_bd (a := a) (b := b) h
  obtain ⟨a', b', d', ha, hb, hd⟩ := gg_dvd a b d
  have g0 : (0 : Int) < (gg a b d : Nat) := by exact_mod_cast gg_pos h
  generalize ((gg a b d : Nat) : Int) = g at *
  have e1 : a.fdiv g = a' := by rw [ha]; exact fmul g0
  have e2 : b.fdiv g = b' := by rw [hb]; exact fmul g0
  have e3 : d.fdiv g = d' := by rw [hd]; exact fmul g0
  rw [e3] at dv
  rw [e1, e2, e3, fe (show 0 < d' by omega), fe g0, fe h]
  have e4 : a * i + b * n + c = c + g * (a' * i + b' * n) := by
    rw [ha, hb, Int.mul_add, Int.mul_assoc, Int.mul_assoc]
    omega
  have e5 : a' * i + b' * n + c / g = (c + g * (a' * i + b' * n)) / g := by
    rw [Int.add_mul_ediv_left _ _ (by omega)]
    omega
  rw [e4, e5, hd, Int.ediv_ediv_of_nonneg (Int.le_of_lt g0)]
end Z
set_option maxHeartbeats 4000000
namespace Z
open PySem PySem.Spec PyProof.Rows L2
def g2 (a b : Int) : Nat := Nat.gcd a.natAbs b.natAbs
def lf3 (a b c : Int) : Int := if g2 a b = 0 then (if 0 ≤ c then 0 else -1) else c.fdiv (g2 a b)
theorem g2_le {a b : Int} {N : Nat} (ha : a.natAbs ≤ N) (hb : b.natAbs ≤ N) : g2 a b ≤ N := by
  unfold g2
  by_cases h : a.natAbs = 0
  · rw [h, Nat.gcd_zero_left]
    exact hb
  · exact Nat.le_trans (Nat.le_of_dvd (by omega) (Nat.gcd_dvd_left _ _)) ha
theorem g2_zero {a b : Int} (h : g2 a b = 0) : a = 0 ∧ b = 0 := by
  unfold g2 at h
  have h1 := Nat.eq_zero_of_gcd_eq_zero_left h
  have h2 := Nat.eq_zero_of_gcd_eq_zero_right h
  omega
/-- the least form tells the same -/
theorem least_form {a b c i n : Int} : decide (0 ≤ (a.fdiv (g2 a b)) * i + (b.fdiv (g2 a b)) * n + lf3 a b c) = decide (0 ≤ a * i + b * n + c) := by
  unfold lf3
  by_cases h : g2 a b = 0
  · obtain ⟨rfl, rfl⟩ := g2_zero h
    rw [if_pos h, Int.zero_fdiv, Int.zero_mul, Int.zero_mul]
    by_cases hc : 0 ≤ c
    · rw [if_pos hc]
      exact decide_eq_decide.mpr (by omega)
    · rw [if_neg hc]
      exact decide_eq_decide.mpr (by omega)
  · rw [if_neg h]
    have h1 : ((g2 a b : Nat) : Int) ∣ a := Int.ofNat_dvd_left.mpr (Nat.gcd_dvd_left _ _)
    have h2 : ((g2 a b : Nat) : Int) ∣ b := Int.ofNat_dvd_left.mpr (Nat.gcd_dvd_right _ _)
    obtain ⟨a', ha⟩ := h1
    obtain ⟨b', hb⟩ := h2
    have g0 : (0 : Int) < (g2 a b : Nat) := by omega
    generalize ((g2 a b : Nat) : Int) = g at *
    have e1 : a.fdiv g = a' := by rw [ha]; exact fmul g0
    have e2 : b.fdiv g = b' := by rw [hb]; exact fmul g0
    rw [e1, e2, fe g0]
    have e4 : a * i + b * n + c = c + g * (a' * i + b' * n) := by
      rw [ha, hb, Int.mul_add, Int.mul_assoc, Int.mul_assoc]
      omega
    have e5 : a' * i + b' * n + c / g = (c + g * (a' * i + b' * n)) / g := by
      rw [Int.add_mul_ediv_left _ _ (by omega)]
      omega
    rw [e4, e5]
    exact decide_eq_decide.mpr (Int.ediv_nonneg_iff_of_pos g0)
theorem fm {x m : Int} (h : 0 < m) : x.fmod m = x % m := Int.fmod_eq_emod_of_nonneg _ (Int.le_of_lt h)
theorem rest_form {a b c m r i n : Int} (hm : 2 ≤ m) (hm2 : m ≤ 4) (r0 : 0 ≤ r) (r1 : r ≤ m - 1) : decide (((a.fmod m) * i + (b.fmod m) * n + 0).fmod m = (r - c).fmod m) = decide ((a * i + b * n + c).fmod m = r) := by
  have m0 : 0 < m := by omega
  rw [fm m0, fm m0, fm m0, fm m0, fm m0]
  have e : a * i + b * n = (a % m * i + b % m * n) + m * (a / m * i + b / m * n) := by
    have e1 : a * i = a % m * i + m * (a / m * i) := by
      rw [← Int.mul_assoc, ← Int.add_mul, Int.emod_add_mul_ediv]
    have e2 : b * n = b % m * n + m * (b / m * n) := by
      rw [← Int.mul_assoc, ← Int.add_mul, Int.emod_add_mul_ediv]
    rw [Int.mul_add]
    omega
  rw [e]
  generalize a % m * i + b % m * n = y
  generalize a / m * i + b / m * n = k
  refine decide_eq_decide.mpr ?_
  have h3 : m = 2 ∨ m = 3 ∨ m = 4 := by omega
  rcases h3 with z | z | z <;> subst z <;> omega
section
variable (K : PySem.W.Frag)
abbrev CA : Addr := He.ga K "AtLeast"
abbrev CR : Addr := He.ga K "Rest"
def af (q : Addr) : List (Str × V) := putF "straight" (.ref q) []
def rf (q : Addr) (m r : Int) : List (Str × V) := putF "rest" (.int r) (putF "modulus" (.int m) (putF "straight" (.ref q) []))
def AtlAt (H : Hp) (p : Addr) (a b c : Int) : Prop := ∃ dx q, H p = some (.ins (CA K) dx (af q)) ∧ StrAt K H q a b c
def RstAt (H : Hp) (p : Addr) (a b m r : Int) : Prop := ∃ dx q, H p = some (.ins (CR K) dx (rf q m r)) ∧ StrAt K H q a b 0
end
theorem sm_ : ¬ (("straight" : Str) = "modulus") := by decide +kernel
theorem sr_ : ¬ (("straight" : Str) = "rest") := by decide +kernel
theorem mr_ : ¬ (("modulus" : Str) = "rest") := by decide +kernel
theorem af_s (q : Addr) : (af q).lookup ("straight" : Str) = some (.ref q) := by
  unfold af
  rw [lookup_putF, if_pos rfl]
theorem af_no (q : Addr) {m : Str} (h1 : ¬ m = "straight") : (af q).lookup m = none := by
  unfold af
  rw [lookup_putF, if_neg h1]
  rfl
theorem rf_s (q : Addr) (m r : Int) : (rf q m r).lookup ("straight" : Str) = some (.ref q) := by
  unfold rf
  rw [lookup_putF, if_neg sr_, lookup_putF, if_neg sm_, lookup_putF, if_pos rfl]
theorem rf_m (q : Addr) (m r : Int) : (rf q m r).lookup ("modulus" : Str) = some (.int m) := by
  unfold rf
  rw [lookup_putF, if_neg mr_, lookup_putF, if_pos rfl]
theorem rf_r (q : Addr) (m r : Int) : (rf q m r).lookup ("rest" : Str) = some (.int r) := by
  unfold rf
  rw [lookup_putF, if_pos rfl]
theorem rf_no (q : Addr) (k r : Int) {m : Str} (h1 : ¬ m = "straight") (h2 : ¬ m = "modulus") (h3 : ¬ m = "rest") : (rf q k r).lookup m = none := by
  unfold rf
  rw [lookup_putF, if_neg h3, lookup_putF, if_neg h2, lookup_putF, if_neg h1]
  rfl
variable {K : PySem.W.Frag}
theorem AtlAt.same {H H' : Hp} {p : Addr} {a b c : Int} (h : AtlAt K H p a b c) (s : Same H H') : AtlAt K H' p a b c := by
  obtain ⟨dx, q, h, h2⟩ := h
  exact ⟨dx, q, s _ _ h, h2.same s⟩
theorem RstAt.same {H H' : Hp} {p : Addr} {a b m r : Int} (h : RstAt K H p a b m r) (s : Same H H') : RstAt K H' p a b m r := by
  obtain ⟨dx, q, h, h2⟩ := h
  exact ⟨dx, q, s _ _ h, h2.same s⟩
theorem AtlAt.keep {H H' : Hp} {p q : Addr} {a b c : Int} {t : Nat} (h : AtlAt K H p a b c) (hp : Pen H q t) (k : Keep q H H') : AtlAt K H' p a b c := by
  obtain ⟨dx, r, h, h2⟩ := h
  exact ⟨dx, r, k _ _ (hp.ne h fun _ z => by cases z) h, h2.keep hp k⟩
theorem RstAt.keep {H H' : Hp} {p q : Addr} {a b m r : Int} {t : Nat} (h : RstAt K H p a b m r) (hp : Pen H q t) (k : Keep q H H') : RstAt K H' p a b m r := by
  obtain ⟨dx, r, h, h2⟩ := h
  exact ⟨dx, r, k _ _ (hp.ne h fun _ z => by cases z) h, h2.keep hp k⟩
section
variable (K : PySem.W.Frag)
def NewA (H : Hp) (a b c : Int) (Q : VK) : Prop := ∀ p H', Same H H' → AtlAt K H' p a b c → Q (.ref p) H'
def NewR (H : Hp) (a b m r : Int) (Q : VK) : Prop := ∀ p H', Same H H' → RstAt K H' p a b m r → Q (.ref p) H'
def spIntFrom : Sp := fun vs H Q _ => ∃ v lo hi : Int, vs = [.int v, .int lo, .int hi] ∧ Q (.bl (decide (lo ≤ v ∧ v ≤ hi))) H
def spAI : Sp := fun vs H Q _ => ∃ (p dx : Addr) (v : V) (a b c : Int), vs = [.ref p, v] ∧ H p = some (.ins (CA K) dx []) ∧ SumV K H v a b c ∧ g2 a b < 1073741824 ∧
  ∀ q H', H' p = some (.ins (CA K) dx (af q)) → StrAt K H' q (a.fdiv (g2 a b)) (b.fdiv (g2 a b)) (lf3 a b c) → Keep p H H' → Q .non H'
/-- what Rest(v, m, r) asks -/
def rRst (v : V) (m r : Int) (H : Hp) (ok : Int → Int → Int → Prop) (E : XK) : Prop := ∃ a b c, SumV K H v a b c ∧ (¬ (2 ≤ m ∧ m ≤ 4) → BadN K H "modulus" (.int m) E) ∧ (2 ≤ m → m ≤ 4 → ¬ (0 ≤ r ∧ r ≤ m - 1) → BadN K H "rest" (.int r) E) ∧ (2 ≤ m → m ≤ 4 → 0 ≤ r → r ≤ m - 1 → ok a b c)
def spRI : Sp := fun vs H Q E => ∃ (p dx : Addr) (v : V) (m r : Int), vs = [.ref p, v, .int m, .int r] ∧ H p = some (.ins (CR K) dx []) ∧
  rRst K v m r H (fun a b c => ∀ q H', H' p = some (.ins (CR K) dx (rf q m ((r - c).fmod m))) → StrAt K H' q (a.fmod m) (b.fmod m) 0 → Keep p H H' → Q .non H') E
end
end Z
set_option maxHeartbeats 4000000
namespace Z
open PySem PySem.Spec PyProof.Rows L2
section
variable {prog : Program} {w : World} {A : Around} {E : Value → Shared → Prop} {s : Shared} {x C : Addr} {K : PySem.W.Frag} {ox : Obj} {od : Option Obj} {name : Str} {pl : Sem Bool} {Q : Value × List Value → Shared → Prop}
/-- x.m(..) where m is no name of the class: what the field holds is called -/
theorem method_fld (X : K.In s.heap) (I : PySem.W.InstAt s.heap x ox C od) (hga : PySem.W.findIn K (.ref C) "__getattribute__" = some (some (.builtin "object.__getattribute__"))) (hk : PySem.W.findIn K (.ref C) "__getattr__" = some none)
    (hf : PySem.W.findIn K (.ref C) name = some none) (h : wpAny (model prog w) A (getAttr (.ref x) name) (fun u s' => Q (u, []) s') E s) : wpAny (model prog w) A (getMethod (.ref x) name pl) Q E s := by
  have hcan := PySem.F.canon_object_ga
  unfold getMethod specialOf
  refine wpAny_bind (wpAny_bind (I.type.here ((PySem.W.looks_findIn X hga).here ?_)))
  dsimp only
  rw [hcan, if_neg (by decide)]
  refine wpAny_bind (wpAny_bind (I.type.here ((PySem.W.looks_findIn X hk).here ?_)))
  refine wpAny_bind (wpAny_bind (I.type.here ((PySem.W.looks_findIn X hf).here ?_)))
  exact wpAny_bind (wpAny_mono h (fun u s' q => wpAny_pure q) fun _ _ z => z)
end
section
variable {X : Cx} {CX : CXT} {k : Nat} {g C2 : Addr} {sp : Sp} {E : XK} {o e : Expr} {es : List Expr} {m : Str} {apos pos : Pos} {ta : TE} {t : TA} {pl : Sem Bool}
/-- o.f(e, ..), f a field that holds an instance of C2 -/
def tFCall (X : Cx) (C2 : Addr) (m : Str) (sp : Sp) (E : XK) (ta : TE) (t : TA) : TE := fun σ H Q => ta σ H fun x H1 => ∃ a C dx fs q, x = .ref a ∧ H1 a = some (.ins C dx fs) ∧ Cls X.K C ∧ NoAttr X.K C m ∧ fs.lookup m = some (.ref q) ∧ t σ H1 fun vs H2 => (∃ dx fs, H2 q = some (.ins C2 dx fs)) ∧ sp (.ref q :: vs) H2 Q E
theorem pe_fcall (he : PE X o ta) (c : StX.CallO X.K C2 g) (F : FnR X.prog X.w X.K X.mg X.base CX k g sp) (hr : Room k X.A) (hx : Passes CX X E) (ha : PA X (e :: es) t)
    (ht : eval (.Call (.Attribute o m apos) (e :: es) [] pos) X.env = (do
      let ov ← eval o X.env
      standAt apos.atName
      let (f, first) ← holding [ov] (getMethod ov m pl)
      callWith pos f first (backTo pos (starEach (e :: es) X.env)) (backToKw pos (keywordEach [] X.env))) := by rfl)
    (hst : starEach (e :: es) X.env = (false, eval e X.env) :: starEach es X.env := by rfl) (hpl : (backTo pos (starEach es X.env)).any (·.1) = false := by rfl) :
    PE X (.Call (.Attribute o m apos) (e :: es) [] pos) (tFCall X C2 m sp E ta t) := by
  refine ⟨fun pins s σ H Q I h => ?_⟩
  refine PySem.W.methodCall_KW (pl := pl) (thn (he.run pins s σ H _ I h) fun u s1 ⟨x, H1, I1, rx, a, C, dx, fs, q, ex, ea, cl, na, l, q1⟩ => ?_) ht
  subst ex
  obtain rfl : u = Value.ref a := rx
  obtain ⟨od, J⟩ := ins_at I1 ea
  refine method_fld I1.kIn J (PySem.W.plainGet_of (cl.get m)).1 (PySem.W.plainGet_of (cl.get m)).2 na (getattr_ok I1 ea cl na l fun u' s2 I2 ru => ?_)
  obtain rfl : u' = Value.ref q := ru
  refine StX.callO_with (thn (ha.run pos pins s2 σ H1 _ I2 q1) fun us s3 ⟨vs, H2, I3, r, hi, q2⟩ => ?_) hst hpl
  have hi2 : StX.InsC X H2 q C2 := .inr hi
  obtain ⟨ox, od, J, hd⟩ := StX.insC_at I3 hi2
  exact ⟨⟨C2, ox, od, J, hd⟩, StX.run_callO c F hr hx I3 hi2 r q2⟩
end
end Z
namespace Z
open PySem PySem.Spec PyProof.Rows L2
end Z
set_option maxHeartbeats 4000000
namespace Z
open PySem PySem.Spec PyProof.Rows L2
/-- the ends of a suite behind which slot i is bare -/
def bare (i : Nat) (D : Ends) : Ends := { nx := fun σ' H' => D.nx (σ'.set i none) H', rt := D.rt, bk := fun σ' H' => D.bk (σ'.set i none) H', ct := fun σ' H' => D.ct (σ'.set i none) H' }
abbrev Clause : Type := Value × Nat × (Addr → Value → Option Addr → TS)
def wClauses (K : PySem.W.Frag) (Wout : WX) (D : Ends) : List Clause → WX
  | [] => Wout
  | q :: r => fun cls d σ H => ∃ b, PySem.W.exmOne K cls q.1 = some b ∧ (b = true → ∀ a, H a = none → q.2.2 a cls d (bare q.2.1 D) (σ.set q.2.1 (some (.ref a))) H) ∧ (b = false → wClauses K Wout D r cls d σ H)
inductive Clauses (X : Cx) : List ExceptHandler → List Clause → Prop
  | nil : Clauses X [] []
  | cons {x n : Str} {c : Value} {i : Nat} {ts : Addr → Value → Option Addr → TS} {b₀ : Stmt} {suite : List Stmt} {np q : Pos} {hds : List ExceptHandler} {l : List Clause} (hi : X.N[i]? = some n) (hl : X.env.kindOf n = some .local) (hc : Names X x c)
      (hsu : ∀ (a : Addr) (oe : Obj) (cls : Value) (d : Option Addr) (pn : List (Addr × Obj)), Zc cls d oe → (∃ vs, oe.data = .fields vs) → PSs (X.suite a ((a, oe) :: pn)) (b₀ :: suite) (ts a cls d)) (r : Clauses X hds l) :
      Clauses X (.ExceptHandler (some (.Name x np)) (some n) (b₀ :: suite) q :: hds) ((c, i, ts) :: l)
section
variable {X : Cx} {body : List Stmt} {h₀ : ExceptHandler} {hds : List ExceptHandler} {l : List Clause} {pos : Pos} {tb : WX → TS} {Wout : WX}
theorem ps_try_asMany (hs : X.stack = X.env :: X.outer) (hf : X.env.frame = some X.env.locals) (hN : X.N.Nodup) (tk : Takes X Wout)
    (hb : ∀ (W : WX) (pn : List (Addr × Obj)) (xe : Value → Shared → Prop), Takes (X.tr pn xe) W → PassesOwn (model X.prog X.w) X.A X.env xe → PSs (X.tr pn xe) body (tb W))
    (hh : Clauses X (h₀ :: hds) l) : PS X (.Try body (h₀ :: hds) [] [] pos) (fun D σ H => tb (wClauses X.K Wout D l) D σ H) := by
  refine ⟨fun pins s σ H D I h => ?_⟩
  have ok := I.ok
  have frm : X.A.frames = some (X.env :: X.outer) := ok.frames.trans (congrArg some hs)
  have out : ∀ {f : Flow} {s1 : Shared}, SP (X.tr (X.pn ++ pins) (fun e s₁ => wpAny (model X.prog X.w) X.A (noteFrame e X.env) (fun _ s₂ => wpAny (model X.prog X.w) X.A (setFlight e none) (fun _ s₃ => wpAny (model X.prog X.w) X.A (handleBy e X.env (h₀ :: hds)) (SP X pins D) X.xe s₃) X.xe s₂) X.xe s₁)) [] D f s1 → SP X pins D f s1 := by
    intro f s1 z
    cases f with
    | next => exact z.elim fun σ' z => z.elim fun H' z => ⟨σ', H', z.1.ofTry ok, z.2⟩
    | brk => exact z.elim fun σ' z => z.elim fun H' z => ⟨σ', H', z.1.ofTry ok, z.2⟩
    | cont => exact z.elim fun σ' z => z.elim fun H' z => ⟨σ', H', z.1.ofTry ok, z.2⟩
    | ret u => exact z.elim fun v z => z.elim fun σ' z => z.elim fun H' z => ⟨v, σ', H', z.1.ofTry ok, z.2⟩
  refine wpAny_Try_except (wpAny_mono ((hb (wClauses X.K Wout D l) (X.pn ++ pins) _ (fun u s' xx => ?_) PassesOwn.looking).run [] s σ H D (I.toTry _) h) (fun f s1 z => ?_) fun e s1 he => he)
  · obtain ⟨a, B, sI, pins', σ', H', cls, d, rfl, J', nb, up, sky, na, os, ag, w⟩ := xx
    have J : Inv X pins σ' H' sI := J'.ofTry ok
    have sky' : Sky B (X.env :: X.outer) a (Zc cls d) X.env.locals s'.heap := hs ▸ sky
    show wpAny (model X.prog X.w) X.A (noteFrame (.ref a) X.env) _ _ _
    refine Sky.land Zc.steady frm hf sky' fun h3 fl3 up3 => ?_
    have up13 := up.trans up3
    obtain ⟨oe3, vs3, he3, hz3, hd3⟩ := fl3.there
    have J3 : Inv X pins σ' H' { s' with heap := h3 } := J.landed nb fl3.1 up13 os ag
    have far : a ∉ frs (X.env :: X.outer) := fun hm => (fl3.2.2.1.mem hm).elim fun _ z => z.elim fun o' z => by
      have e' := z.1
      rw [he3] at e'
      exact z.2 _ (Option.some.inj e' ▸ hd3)
    have nL : a ≠ X.env.locals := fun z => far (List.mem_filterMap.mpr ⟨X.env, .head _, by rw [hf, z]⟩)
    have nF : a ∉ X.fs := fun hm => (List.mem_filterMap.mp hm).elim fun e z => far (List.mem_filterMap.mpr ⟨e, .tail _ z.1, z.2⟩)
    have S3 := J3.suite he3 hd3 na nL nF
    have tyE : PySem.W.Looks (model X.prog X.w) h3 (typeOf (.ref a)) cls := fun A Q E s k q => wpAny_typeOf_ref (k _ _ he3) (by rw [hz3.1]; exact q)
    suffices walk : ∀ {hds' : List ExceptHandler} {l' : List Clause}, Clauses X hds' l' → wClauses X.K Wout D l' cls d σ' H' → wpAny (model X.prog X.w) X.A (handleBy (.ref a) X.env hds') (SP X pins D) X.xe { s' with heap := h3 } from walk hh w
    intro hds' l' hk
    induction hk with
    | nil =>
      intro w
      refine wpAny_handleBy_nil ?_
      obtain ⟨k1, k2, k3, oe, vs, T, oT, ts', he, hz, hd, h1, hr⟩ := id fl3
      unfold PySem.passOn
      refine wpAny_bind (wpAny_field he hd h1 ?_)
      rw [if_neg (show ¬ ((Value.ref T == Value.none) = true) from by simp)]
      have fin : wpAny (model X.prog X.w) X.A (setFlight (.ref a) X.env.frame) (fun _ s4 => wpAny (model X.prog X.w) X.A (throw (.ref a) : Sem Flow) (SP X pins D) X.xe s4) X.xe { s' with heap := h3 } := by
        rw [hf]
        exact HandSPX.setFlight_upZ fl3 fun h4 hh4 up4 => wpAny_throw (tk _ _ ⟨a, B, sI, pins, σ', H', cls, d, rfl, J, nb, up13.trans up4, .inr (.inr (by rw [hs]; exact hh4)), na, os, ag, w⟩)
      first
        | exact wpAny_bind (wpAny_pure (wpAny_bind fin))
        | exact wpAny_bind fin
    | @cons x n c i ts b₀ suite np q hds2 l2 hi hln hc hsu r ih =>
      intro w
      obtain ⟨b, hb1, hyes, hno⟩ := w
      have LM := PySem.W.exm_one (M := model X.prog X.w) (J3.kIn) tyE hb1
      refine wpAny_handleBy_cons (codeAny_handlers_test ?_) (by intro q; cases q)
      have nm : ∀ {Q : Value → Shared → Prop} {E : Value → Shared → Prop}, Q c { s' with heap := h3 } → wpAny (model X.prog X.w) (X.A.mark (some (.ref a))) (eval (.Name x np) X.env) Q E { s' with heap := h3 } := fun {Q E} y => by
        rcases hc with ⟨g1, g2, m1 | ⟨m1, m2, m3⟩⟩
        · exact ld_glob (X := X.suite a ((a, oe3) :: (X.pn ++ pins))) S3 g1 m1 y g2
        · exact ld_blt (X := X.suite a ((a, oe3) :: (X.pn ++ pins))) S3 g1 m1 m2 y m3 g2
      refine nm (LM.here ?_)
      cases b with
      | false => exact ih (hno rfl)
      | true =>
        refine codeAny_handlers_suite_as (HandSPX.lands_againZ fl3 fun h4 fl4 up4 => ?_)
        obtain ⟨oe4, vs4, he4, hz4, hd4⟩ := fl4.there
        have S4 := (J.landed nb fl4.1 (up13.trans up4) os ag : Inv X pins σ' H' { s' with heap := h4 }).suite he4 hd4 na nL nF
        refine store_ok (X := X.suite a ((a, oe4) :: (X.pn ++ pins))) (v := .ref a) S4 hN hi (.inl hln) rfl (fun s5 S5 => ?_) (.inr hln)
        refine wpAny_mono ((hsu a oe4 cls d (X.pn ++ pins) hz4 ⟨_, hd4⟩).run [] s5 _ H' _ S5 (hyes rfl a na)) (fun f s6 hsp => ?_) (fun _ _ z => z.elim)
        have end_ : ∀ {σ6 : L2.St} {H6 : Hp} {Q : Shared → Prop}, Inv (X.suite a ((a, oe4) :: (X.pn ++ pins))) [] σ6 H6 s6 → (∀ s7, Inv X pins (σ6.set i none) H6 s7 → Q s7) →
            wpAny (model X.prog X.w) X.A (do bindName X.env n .none; unbindBehindTheSuite X.env n q) (fun _ s7 => Q s7) X.xe s6 := fun {σ6 H6 Q} S6 hq => gone_ok (S6.unsuite ok) hN hi hln hq
        cases f with
        | ret u => exact hsp.elim fun v z => z.elim fun σ6 z => z.elim fun H6 z => end_ z.1 fun s7 J7 => ⟨_, _, _, J7, z.2.1, z.2.2⟩
        | next => exact hsp.elim fun σ6 z => z.elim fun H6 z => end_ z.1 fun s7 J7 => ⟨_, _, J7, z.2⟩
        | brk => exact hsp.elim fun σ6 z => z.elim fun H6 z => end_ z.1 fun s7 J7 => ⟨_, _, J7, z.2⟩
        | cont => exact hsp.elim fun σ6 z => z.elim fun H6 z => end_ z.1 fun s7 J7 => ⟨_, _, J7, z.2⟩
  · have z2 := out z
    cases f with
    | next => exact wpAny_execs_nil z2
    | brk => exact z2
    | cont => exact z2
    | ret u => exact z2
end
end Z
set_option maxHeartbeats 4000000
namespace Z
open PySem PySem.Spec PyProof.Rows L2
inductive Er where
  | num (w : Str) (v : Int)
  | many (w : Str) (m l : Int)
  | name (x : Str)
def Er.cls (K : PySem.W.Frag) : Er → Addr
  | .num _ _ => He.ga K "BadNumber"
  | .many _ _ _ => He.ga K "TooMany"
  | .name _ => He.ga K "BadName"
def Er.fs : Er → List (Str × V)
  | .num w v => [("number", .int v), ("what", .str w)]
  | .many w m l => [("limit", .int l), ("many", .int m), ("what", .str w)]
  | .name x => [("name", .str x)]
section
variable (K : PySem.W.Frag)
/-- the error is raised, all else as it was -/
def Rz (H : Hp) (E : XK) (e : Er) : Prop := ∀ d H', Same H H' → H' d = some (.xd e.fs) → E (.ref (e.cls K)) (some d) H'
/-- .. but for the object at p -/
def RzK (p : Addr) (H : Hp) (E : XK) (e : Er) : Prop := ∀ d H', Keep p H H' → H' d = some (.xd e.fs) → E (.ref (e.cls K)) (some d) H'
end
/-- the first error of all, or what follows -/
def Out (o : Option Er) (r : Er → Prop) (q : Prop) : Prop := (∀ e, o = some e → r e) ∧ (o = none → q)
theorem Out.none {r : Er → Prop} {q : Prop} (h : q) : Out none r q := ⟨fun _ z => (by cases z), fun _ => h⟩
theorem Out.ok {o : Option Er} {r : Er → Prop} {q : Prop} (h : o = Option.none) (k : q) : Out o r q := ⟨fun _ z => (by rw [h] at z; cases z), fun _ => k⟩
theorem Out.bad {o : Option Er} {e : Er} {r : Er → Prop} {q : Prop} (h : o = some e) (k : r e) : Out o r q := ⟨fun e' z => (by rw [h] at z; cases z; exact k), fun z => (by rw [h] at z; cases z)⟩
theorem Out.or {o1 o2 : Option Er} {r r1 : Er → Prop} {q q1 : Prop} (h : Out (o1.or o2) r q) (hr : ∀ e, r e → r1 e) (k : Out o2 r q → q1) : Out o1 r1 q1 := by
  refine ⟨fun e z => hr e (h.1 e (by rw [z]; rfl)), fun z => k ?_⟩
  subst z
  exact h
theorem Out.end_ {o1 : Option Er} {r r1 : Er → Prop} {q q1 : Prop} (h : Out o1 r q) (hr : ∀ e, r e → r1 e) (k : q → q1) : Out o1 r1 q1 := ⟨fun e z => hr e (h.1 e z), fun z => k (h.2 z)⟩
section
variable {K : PySem.W.Frag} {H H1 : Hp} {E : XK} {e : Er} {p : Addr}
theorem Rz.same (h : Rz K H E e) (s : Same H H1) : Rz K H1 E e := fun d H' s' hd => h d H' (s.trans s') hd
theorem RzK.rz (h : RzK K p H E e) (k : Keep p H H1) : Rz K H1 E e := fun d H' s' hd => h d H' (fun b o nb eb => s' _ _ (k b o nb eb)) hd
end
def ckN (w : Str) (v lo hi : Int) : Option Er := if lo ≤ v ∧ v ≤ hi then none else some (.num w v)
def ckM (w : Str) (m l : Int) : Option Er := if m ≤ l then none else some (.many w m l)
def ckS (a b c : Int) : Option Er := (ckN "i" a (-12) 12).or ((ckN "n" b (-12) 12).or (ckN "one" c (-999) 999))
def ckP (a b c d : Int) : Option Er := (ckS a b c).or (ckN "divisor" d 1 3)
def ckR (a b c d : Int) : Option Er := (ckN "i" a 0 0).or ((ckN "n" b 0 3).or ((ckN "one" c (-999) 999).or (ckN "divisor" d 1 3)))
def kept : List Str := ["for", "i", "from", "n", "below", "by", "down", "if", "and", "mod"]
def lets : Str := "abcdefghijklmnopqrstuvwxyz"
def isName (x : Str) : Bool := decide (1 ≤ x.length ∧ x.length ≤ 8) && (x.cps.toList.all (fun c => decide (c ∈ lets.cps.toList)) && decide (x ∉ kept))
def ckA (x : Str) : Option Er := if isName x = true then none else some (.name x)
def ckRead (x : Str) (f a b c d : Int) : Option Er := (ckA x).or ((if f = 0 then some (.num "factor" f) else none).or ((ckN "factor" f (-999) 999).or (ckP a b c d)))
def ckCs : List (Int × Int × Int) → Option Er
  | [] => none
  | q :: r => (ckS q.1 q.2.1 q.2.2).or (ckCs r)
def ckStm (m1 m2 : Int) (x : Str) (cs : List (Int × Int × Int)) (a b c k : Int) : Option Er :=
  (ckM "reads" m1 3).or ((ckM "conditions" m2 3).or ((ckA x).or ((ckCs cs).or ((ckS a b c).or (ckN "constant" k (-999) 999)))))
def ckLoop (m S a1 b1 c1 d1 a2 b2 c2 d2 : Int) : Option Er :=
  (ckM "statements" m 16).or ((ckN "step" S 1 16).or ((ckR a1 b1 c1 d1).or ((ckR a2 b2 c2 d2).or (if 1 < S ∧ 1 < d1 then some (.num "step" S) else none))))
section
variable {X : Cx} {K : PySem.W.Frag} {mg : Str → Option Value} {k j n : Nat} {f C : Addr} {fd : FuncData} {ps ks : List Str} {sp : Sp} {E : L2.St → XK} {x : Str} {p pos : Pos} {e : Expr} {es : List Expr} {kws : List Keyword} {t tk : TA}
/-- a global def that may raise -/
def Dx (P : Program) (w : World) (K : PySem.W.Frag) (mg : Str → Option Value) (base : Heap) (j : Nat) (x : Str) (ps : List Str) (sp : Sp) : Prop :=
  ∃ (f : Addr) (fd : FuncData), FnOk P w K mg base (L2.CX P w) j f fd ps sp ∧ mg x = some (.ref f) ∧ PySem.W.keepIn K (.ref f) = true ∧ Binds K fd ps []
theorem pe_dx (D : Dx X.prog X.w K X.mg X.base j x ps sp) (hK : X.K = K) (hr : Room k X.A) (hx : ∀ σ, PassesAt (L2.CX X.prog X.w) X σ (E σ)) (ha : PA X (e :: es) t) (hjk : j ≤ k := by decide) (hg : Gl X x := by rfl)
    (hdb : (x == ("__debug__" : Str)) = false := by decide) (he : starEach (e :: es) X.env = (false, eval e X.env) :: starEach es X.env := by rfl) (hpl : (backTo pos (starEach es X.env)).any (·.1) = false := by rfl) :
    PE X (.Call (.Name x p) (e :: es) [] pos) (tCallS sp E t) := by
  subst hK
  obtain ⟨f, fd, F, hm, hk, hb⟩ := D
  exact pe_callS F (hr.mono hjk) hg hm hk hb hx ha hdb he hpl
/-- the class C of the name x may be made: __init__ with its promise, and how its parameters are bound -/
structure Mc (P : Program) (w : World) (K : PySem.W.Frag) (mg : Str → Option Value) (base : Heap) (j : Nat) (x : Str) (f : Addr) (fd : FuncData) (ps : List Str) (sp : Sp) : Prop where
  mK : Mk K (He.ga K x) f
  gC : mg x = some (.ref (He.ga K x))
  fn : FnOk P w K mg base (L2.CX P w) j f fd ps sp
theorem make_run {CX : CXT} {pins : List (Addr × Obj)} {σ : L2.St} {H : Hp} {s : Shared} {Q : VK} {us : List Value} {kw : List (Str × Value)} {vz : List V} {uz : List Value} {E0 : XK} (M : Mk X.K C f) (F : FnOk X.prog X.w X.K X.mg X.base CX k f fd ps sp) (hr : Room (k + 1) X.A)
    (hx : PassesAt CX X σ E0) (I : L2.Inv X pins σ H s) (vals : ∀ a : Addr, Vals (V.ref a :: vz) (Value.ref a :: uz))
    (bind : ∀ (s' : Shared) (a : Addr), X.K.In s'.heap → BindsTo s' fd ⟨Value.ref a :: us, kw⟩ (ps.zip (Value.ref a :: uz)))
    (h : ∀ x dx, H x = none → H dx = none → dx ≠ x → sp (.ref x :: vz) (upd (upd H dx (.own x)) x (.ins C dx [])) (fun v H2 => v = .non ∧ Q (.ref x) H2) E0) :
    wpAny (model X.prog X.w) X.A (call (.ref C) us kw) (EP X pins σ Q) X.xe s := by
  have q0 := h (s.heap.objs.size + 1) s.heap.objs.size (I.hok.fresh (Nat.le_succ _)) (I.hok.fresh (Nat.le_refl _)) (Nat.ne_of_lt (Nat.lt_succ_self _))
  have J := Inv.made (C := C) I
  refine wpAny_call (make_map (f := f) I.kIn M.makes M.init (beq_iff_eq.mp M.fn) (codeAny_mono (F.run _ X.stack _ _ ⟨Value.ref (s.heap.objs.size + 1) :: us, kw⟩ (Value.ref (s.heap.objs.size + 1) :: uz) _ _ E0 (hr.make C us kw)
    (J.env0.make C us kw) (bind _ _ J.kIn) (vals _) q0) fun r' s' z => ?_))
  cases r' with
  | error e => exact hx pins _ _ e s' J z
  | ok fl =>
    cases fl with
    | ret u =>
      obtain ⟨v, H', I3, rv, ev, q3⟩ := J.after z
      subst ev
      exact ⟨rv, ⟨V.ref (s.heap.objs.size + 1), H', I3, rfl, q3⟩⟩
    | next => exact False.elim z
    | brk => exact False.elim z
    | cont => exact False.elim z
end
end Z
namespace Z
open PySem PySem.Spec PyProof.Rows L2
section
variable (K : PySem.W.Frag)
/-- Place(v, d), d of any size: only the common divisor must be small -/
def spPG : Sp := fun vs H Q E => ∃ (p dx : Addr) (v : V) (a b c d : Int), vs = [.ref p, v, .int d] ∧ H p = some (.ins (CP K) dx []) ∧ SumV K H v a b c ∧ (d < 1 → BadN K H "divisor" (.int d) E) ∧
  (1 ≤ d → gg a b d < 1073741824 ∧ ∀ q H', H' p = some (.ins (CP K) dx (pf q (d.fdiv (gg a b d)))) → StrAt K H' q (a.fdiv (gg a b d)) (b.fdiv (gg a b d)) (c.fdiv (gg a b d)) → Keep p H H' → Q .non H')
def rPlG (v : V) (d : Int) (H : Hp) (Q : VK) (E : XK) : Prop := ∃ a b c, SumV K H v a b c ∧ (d < 1 → BadN K H "divisor" (.int d) E) ∧ (1 ≤ d → gg a b d < 1073741824 ∧ NewP K H a b c d Q)
end
end Z
set_option maxHeartbeats 4000000
namespace Z
open PySem PySem.Spec PyProof.Rows L2
def txtOf (e : Int × Value) : Str := match e.2 with | .str k _ => k | _ => Str.empty
def Tx1 (w : World) (e : Int × Value) : Prop := ∃ k u, e.2 = Value.str k u ∧ e.1 = hashStr w k
structure TxBody (w : World) (l : List Str) (es : Array (Int × Value)) (t : SetTable) : Prop where
  one : ∀ e ∈ es.toList, Tx1 w e
  nd : (es.toList.map txtOf).Nodup
  mem : ∀ k, k ∈ l ↔ k ∈ es.toList.map txtOf
  few : es.size < scanBound
  fit : t.fits es.size = true
  ris : Ris t.place.toList
  led : w.params.followText "set-order" = true ∨ t.led = true
/-- the set at a has the texts of l -/
def TxSet (w : World) (h : Heap) (a : Addr) (l : List Str) : Prop := ∃ o es ep t, h.get? a = some o ∧ o.ExactSet ∧ o.data = .set es ep t ∧ TxBody w l es t
section
variable {P : Program} {w : World} {A : Around} {E : Value → Shared → Prop} {s : Shared} {a : Addr} {l : List Str}
theorem TxSet.at {h h' : Heap} (R : TxSet w h a l) (k : ∀ o, h.get? a = some o → h'.get? a = some o) : TxSet w h' a l := by
  obtain ⟨o, es, ep, t, ho, r⟩ := R
  exact ⟨o, es, ep, t, k o ho, r⟩
theorem tx_is {e : Int × Value} (g : Tx1 w e) (k : Str) : (PySem.strKind P w).is k e.2 = true ↔ txtOf e = k := by
  obtain ⟨k0, u, h1, _⟩ := g
  unfold txtOf
  rw [h1]
  show Value.isStrOf k (.str k0 u) = true ↔ k0 = k
  simp only [Value.isStrOf]
  constructor
  · intro z
    exact (of_decide_eq_true z)
  · intro z
    exact decide_eq_true z
theorem tx_elems {es : List (Int × Value)} (g : ∀ e ∈ es, Tx1 w e) : ElemsOf (PySem.strKind P w) es := fun e he => by
  obtain ⟨k, u, h1, h2⟩ := g e he
  exact ⟨⟨k, by rw [h1]; exact PySem.Froz.is_str k u, h2⟩, by rw [h1] <;> rfl⟩
theorem tx_mem {es : List (Int × Value)} (g : ∀ e ∈ es, Tx1 w e) (k : Str) : k ∈ es.map txtOf ↔ ∃ e ∈ es, (PySem.strKind P w).is k e.2 = true := by
  rw [List.mem_map]
  exact ⟨fun ⟨e, he, q⟩ => ⟨e, he, (tx_is (g e he) k).2 q⟩, fun ⟨e, he, q⟩ => ⟨e, he, (tx_is (g e he) k).1 q⟩⟩
theorem tx_perm {es es' : Array (Int × Value)} {t t' : SetTable} (B : TxBody w l es t) (p : es'.toList.Perm es.toList) (hf : t'.fits es'.size = true) (r : Ris t'.place.toList) (e : t'.led = t.led) : TxBody w l es' t' := by
  have sz : es'.size = es.size := by rw [← Array.length_toList, p.length_eq, Array.length_toList]
  exact ⟨fun x hx => B.one x (p.mem_iff.mp hx), (p.map txtOf).nodup_iff.mpr B.nd, fun k => (B.mem k).trans (p.map txtOf).mem_iff.symm, sz ▸ B.few, hf, r, B.led.imp id fun z => e.trans z⟩
theorem len_sub {α : Type} [DecidableEq α] : ∀ (m l : List α), m.Nodup → (∀ x ∈ m, x ∈ l) → m.length ≤ l.length
  | [], l, _, _ => Nat.zero_le _
  | x :: m, l, d, h => by
    obtain ⟨d1, d2⟩ := List.nodup_cons.mp d
    have q := len_sub m (l.erase x) d2 fun y hy => (List.mem_erase_of_ne (fun (z : y = x) => d1 (by rw [← z]; exact hy))).mpr (h y (.tail _ hy))
    have hx := List.length_erase_of_mem (h x (.head _))
    have hp := List.length_pos_of_mem (h x (.head _))
    simp only [List.length_cons]
    omega
theorem TxBody.size {es : Array (Int × Value)} {t : SetTable} (B : TxBody w l es t) : es.size ≤ l.length := by
  have q := len_sub (es.toList.map txtOf) l B.nd fun x hx => (B.mem x).2 hx
  rw [List.length_map, Array.length_toList] at q
  exact q
/-- the new entries are stored, the table laid anew where it is too full -/
theorem tx_store {g : Bool → Sem Unit} (hg : ∀ (b : Bool) (s₁ : Shared) (Q' : Unit → Shared → Prop), Q' () s₁ → wpAny (model P w) A (g b) Q' E s₁) {o : Obj} {es es1 : Array (Int × Value)} {ep : Nat} {t t2 : SetTable} {dm : Bool}
    {R : Option Bool → Shared → Prop} (ho : s.heap.get? a = some o) (hx : o.ExactSet) (hd : o.data = .set es ep t) (B : TxBody w l es1 t2) (k : ∀ h', Heap.SameBut a s.heap h' → TxSet w h' a l → R (some true) { s with heap := h' }) :
    wpAny (model P w) A (do
        storeSet a es1 t2
        if (!dm && t2.tooFull) = true then do
            g (relayAll t2 es1 (SetTable.grown es1.size)).2.2
            storeSet a (relayAll t2 es1 (SetTable.grown es1.size)).1 (relayAll t2 es1 (SetTable.grown es1.size)).2.1
            pure (some true)
          else pure (some true)) R E s := by
  have h1 := store_at (es' := es1) (t' := t2) ho hd
  have b1 := Heap.SameBut.update s.heap a (Obj.putSet es1 t2)
  refine wpAny_bind (wpAny_storeSet_of ho hd ?_ (fits_of_scanBound B.few))
  split
  · have pm := relayAll_perm t2 es1 (SetTable.grown es1.size)
    have B2 := tx_perm B pm (relayAll_fits t2 es1 (SetTable.grown es1.size)) (relayAll_ris t2 es1 (SetTable.grown es1.size)) (relayAll_led t2 es1 (SetTable.grown es1.size))
    refine wpAny_bind (hg _ _ _ (wpAny_bind (wpAny_storeSet_of h1 rfl (wpAny_pure ?_) (fits_of_scanBound B2.few))))
    exact k _ (b1.trans (Heap.SameBut.update _ a _)) ⟨_, _, _, _, store_at h1 rfl, hx, rfl, B2⟩
  · exact wpAny_pure (k _ b1 ⟨_, es1, _, t2, h1, hx, rfl, B⟩)
theorem tx_add {x : Str} {u : Tok} {Q : Bool → Shared → Prop} (R : TxSet w s.heap a l) (room : l.length + 1 < scanBound) (k : ∀ h' b, Heap.SameBut a s.heap h' → TxSet w h' a (x :: l) → Q b { s with heap := h' }) : wpAny (model P w) A (setAddHashed a (.str x u) (hashStr w x)) Q E s := by
  obtain ⟨o, es, ep, t, ho, hx, hd, B⟩ := R
  have hsz := B.size
  have key : (PySem.strKind P w).is x (.str x u) = true := PySem.Froz.is_str x u
  have el : ElemsOf (PySem.strKind P w) es.toList := tx_elems B.one
  have sc : (Value.str x u).scannable = true := rfl
  unfold setAddHashed setAddHashedIn
  refine wpAny_holding (wpAny_bind (wpAny_setState_of ho hd B.fit ?_))
  dsimp only
  rw [byScan_of sc B.few el]
  simp only [↓reduceIte]
  unfold setAddByScan
  refine wpAny_bind (wpAny_bind (wpAny_rule (wpAny_bind (wpAny_setScan_of (knd := PySem.strKind P w) (k := x) key ho hd B.fit el ?_))))
  cases fi : List.findIdx? (fun e => (PySem.strKind P w).is x e.2) es.toList with
  | some j =>
    dsimp only
    obtain ⟨hj, pj, _⟩ := List.findIdx?_eq_some_iff_getElem.mp fi
    have xin : x ∈ l := (B.mem x).2 ((tx_mem (P := P) B.one x).2 ⟨es.toList[j], List.getElem_mem hj, pj⟩)
    refine wpAny_pure (wpAny_pure (k s.heap _ (Heap.SameBut.refl a s.heap) ⟨o, es, ep, t, ho, hx, hd, B.one, B.nd, fun y => ?_, B.few, B.fit, B.ris, B.led⟩))
    rw [List.mem_cons, ← B.mem y]
    exact ⟨fun z => z.elim (fun e => e ▸ xin) id, .inr⟩
  | none =>
    dsimp only
    have xno : x ∉ es.toList.map txtOf := fun z => by
      obtain ⟨e, he, q⟩ := (tx_mem (P := P) B.one x).1 z
      have c := List.findIdx?_eq_none_iff.mp fi e he
      rw [q] at c
      cases c
    have gave : ∀ (b : Bool) {s₁ : Shared} {Q' : Unit → Shared → Prop}, Q' () s₁ → wpAny (model P w) A (match b with | true => rule "set.scan.the-table-gave-way" | false => pure ()) Q' E s₁ :=
      fun b s₁ Q' q => by cases b <;> first | exact wpAny_pure q | exact wpAny_rule q
    have pm := layNew_perm t es (hashStr w x) (.str x u)
    have f1 := layNew_fits t es (hashStr w x) (.str x u)
    have r1 := layNew_ris t es (hashStr w x) (.str x u) B.ris
    have l1 := layNew_led t es (hashStr w x) (.str x u)
    show wpAny _ _ _ _ _ _
    have eh : (PySem.strKind P w).hash x = hashStr w x := rfl
    generalize layNew t es (hashStr w x) (.str x u) = Z at pm f1 r1 l1 ⊢
    obtain ⟨es1, t1, dm, gv⟩ := Z
    dsimp only at pm f1 r1 l1 ⊢
    rw [Array.toList_push] at pm
    have pc : es1.toList.Perm ((hashStr w x, Value.str x u) :: es.toList) := pm.trans (List.perm_append_singleton _ _)
    have pk : (es1.toList.map txtOf).Perm (x :: es.toList.map txtOf) := pc.map txtOf
    have sz : es1.size = es.size + 1 := by rw [← Array.length_toList, pc.length_eq, List.length_cons, Array.length_toList]
    have B1 : ∀ t' : SetTable, t'.fits es1.size = true → Ris t'.place.toList → t'.led = t.led → TxBody w (x :: l) es1 t' := fun t' q1 q2 q3 => {
      one := fun e he => by
        rcases List.mem_cons.mp (pc.mem_iff.mp he) with z | z
        · exact ⟨x, u, by rw [z], by rw [z]⟩
        · exact B.one e z
      nd := pk.nodup_iff.mpr (List.nodup_cons.mpr ⟨xno, B.nd⟩)
      mem := fun y => by rw [pk.mem_iff, List.mem_cons, List.mem_cons, B.mem y]
      few := by omega
      fit := q1
      ris := q2
      led := B.led.imp id fun z => q3.trans z }
    refine wpAny_bind (gave _ ?_)
    split
    · refine wpAny_bind ?_
      rw [hashByValue_scannable 8 sc]
      refine wpAny_pure ?_
      refine tx_store (l := x :: l) ?_ ho hx hd (B1 _ ?_ ?_ ?_) ?_
      · intro b s₁ Q' q; cases b <;> first | exact wpAny_pure q | exact wpAny_rule q
      · first | (split <;> first | exact f1 | exact SetTable.fits_plain_off f1) | exact f1
      · first | (split <;> exact r1) | exact r1
      · first | (split <;> exact l1) | exact l1
      · intro h' sb r; dsimp only; exact wpAny_pure (k h' _ sb r)
    · refine wpAny_bind (wpAny_pure ?_)
      simp only [↓reduceIte]
      refine tx_store (l := x :: l) ?_ ho hx hd (B1 _ f1 r1 l1) ?_
      · intro b s₁ Q' q; cases b <;> first | exact wpAny_pure q | exact wpAny_rule q
      · intro h' sb r; dsimp only; exact wpAny_pure (k h' _ sb r)
theorem tx_new {h : Heap} (ho : h.get? a = some { cls := .type "set", dict := none, data := .set #[] 0 (.fresh 0 0 (!w.params.followText "set-order")) }) : TxSet w h a [] :=
  ⟨_, #[], 0, _, ho, ⟨rfl, rfl, rfl⟩, rfl, ⟨fun e he => by simp at he, by simp, fun k => by simp, by decide, rfl, List.Pairwise.nil, by
    show _ ∨ (!w.params.followText "set-order") = true
    cases w.params.followText "set-order"
    · exact .inr rfl
    · exact .inl rfl⟩⟩
/-- the loop by which the set takes the items -/
theorem tx_update {I : Addr} {fp wr : List Addr} {G : Array GenState → Array GenState → Prop} {n : Nat} {Pv : Nat → Value → Prop} {St : Nat → Shared → Prop} {R : Result → Shared → Prop} (W : WalksS P w A.in1 I fp wr G n Pv St) (S : Addr) (hS : S ∉ fp)
    (xs : List Str) (hn : n = xs.length) (few : xs.length + 1 < scanBound) (item : ∀ i v, Pv i v → ∃ k t, xs[i]? = some k ∧ v = .str k t) (j : Nat) :
    ∀ (i : Nat) (s : Shared), n - i = j → i ≤ n → St i s → TxSet w s.heap S (xs.take i).reverse →
      (∀ s', Moved (S :: wr) G s s' → TxSet w s'.heap S xs.reverse → R (.ok (.ret .none)) s') → codeAny (model P w) A (.builtin "set.update.loop" ⟨[.ref S, .ref I], []⟩) R s := by
  have hw : S ∉ wr := fun h => hS (W.sub _ h)
  have sub : ∀ b ∈ wr, b ∈ S :: wr := fun b hb => .tail _ hb
  induction j with
  | zero =>
    intro i s e hi st hs hR
    obtain rfl : i = n := by omega
    refine codeAny_builtin F.entry_set_update_loop ?_
    rw [Around.under_plainId F.plain_set_update_loop _]
    refine wpAny_bind (m := pyNext (.ref I)) (W.done s _ _ st fun s' hm => ?_)
    rw [List.take_of_length_le (Nat.le_of_eq hn.symm)] at hs
    exact wpAny_pure (hR s' (hm.mono sub) (hs.at fun o e => hm.heap S o hw e))
  | succ j ih =>
    intro i s e hi st hs hR
    have lt : i < n := by omega
    refine codeAny_builtin F.entry_set_update_loop ?_
    rw [Around.under_plainId F.plain_set_update_loop _]
    refine wpAny_bind (m := pyNext (.ref I)) (W.item i s _ _ lt st fun v s' hp st' hm => ?_)
    obtain ⟨z, t, hz, rfl⟩ := item i v hp
    have hs' := hs.at (h' := s'.heap) fun o e => hm.heap S o hw e
    refine wpAny_bind (m := holding [Value.str z t] (setAdd S (.str z t))) (wpAny_holding ?_)
    unfold setAdd
    refine wpAny_holding (wpAny_bind ((PySem.strKind P w).pyHash (k := z) (PySem.Froz.is_str z t) ?_))
    have len : (xs.take i).reverse.length = i := by
      rw [List.length_reverse, List.length_take]
      omega
    refine tx_add (s := { s' with toks := s'.toks + 1 }) hs' (by rw [len]; omega) fun h' b sb hs2 => ?_
    have nx : (xs.take (i + 1)).reverse = z :: (xs.take i).reverse := by
      rw [List.take_add_one, hz, List.reverse_append] <;> rfl
    refine wpAny_pure ⟨plainId_quiet F.plain_set_update_loop _, ih (i + 1) _ (by omega) lt (W.frame _ s' _ _ st' (Nat.le_succ _) fun c hc o e => (sb.2 c fun y => hS (y ▸ hc)).trans e) (by rw [nx]; exact hs2) fun s'' hm2 hs3 => ?_⟩
    exact hR s'' (Moved.trans W.gtrans ((hm.mono sub).then_heap (Nat.le_succ _) fun c o hc e => (sb.2 c fun y => hc (y ▸ .head _)).trans e) hm2) hs3
theorem tx_item : ∀ {us : List Value} {xs : List Str}, StrsAre us xs → ∀ (i : Nat) (v : Value), us[i]? = some v → ∃ k t, xs[i]? = some k ∧ v = .str k t
  | _, _, .nil, i, v, h => by simp at h
  | _, _, .cons y t r, 0, v, h => ⟨y, t, rfl, by simpa using h.symm⟩
  | _, _, .cons y t r, i + 1, v, h => by
    obtain ⟨k, t2, e1, e2⟩ := tx_item r i v (by simpa using h)
    exact ⟨k, t2, by simpa using e1, e2⟩
set_option maxHeartbeats 6400000 in
/-- set(xs) -/
theorem tx_call {l : Addr} {items : Array Value} (xs : List Str) {Q : Value → Shared → Prop} (hh : A.handled = none) (hl : s.heap.IsList l items) (hi : StrsAre items.toList xs) (few : xs.length + 1 < scanBound)
    (k : ∀ (h' : Heap) (tk : Nat), TxSet w h' s.heap.objs.size xs.reverse → (∀ b o, s.heap.get? b = some o → h'.get? b = some o) → Q (.ref s.heap.objs.size) { s with heap := h', toks := tk }) :
    wpAny (model P w) A (call (.type "set") [.ref l]) Q E s := by
  have hz : items.size = xs.length := by rw [← Array.length_toList, StrsAre.len_eq hi]
  obtain ⟨c, tl, hmro⟩ := F.called_set.mro
  have hmade := F.called_set.made
  have hsub := F.called_set.sub
  refine wpAny_call (codeAny_of_tree ?_)
  show wpAny _ _ (callAny (.type "set") _) _ _ _
  refine wpAny_pure ⟨Code.quiet_builtin _ (by decide +kernel), codeAny_builtin F.entry_type_call ?_⟩
  rw [Around.under_plain (weight_type_call_type "set" [.ref l] []) rfl]
  have h1 := F.called_set.notType
  have h2 := F.called_set.canCreate
  have hct := F.typeCall_set_1 (.ref l)
  repeat (any_goals (first | assumption | wp_step))
  obtain ⟨H0, eH0⟩ : ∃ H0 : Heap, H0 = s.heap.push { cls := .type "set", dict := none, data := .set #[] 0 (.fresh 0 0 (!w.params.followText "set-order")) } := ⟨_, rfl⟩
  refine codeAny_mono (code_set_led1 (.ref l) (E := E) (Q₁ := fun obj s₁ => obj = .ref s.heap.objs.size ∧ s₁ = { s with heap := H0 }) ⟨rfl, by rw [eH0]⟩) fun r s₁ hr => ?_
  have g0 : H0.get? s.heap.objs.size = some { cls := .type "set", dict := none, data := .set #[] 0 (.fresh 0 0 (!w.params.followText "set-order")) } := eH0 ▸ Heap.get?_push_size _ rfl
  have z0 : H0.objs.size = s.heap.objs.size + 1 := by rw [eH0, Heap.size_push]
  have k0 : ∀ b o, s.heap.get? b = some o → H0.get? b = some o := fun b o e => eH0 ▸ Heap.get?_push_of_some _ e
  cases r with
  | error e => exact hr
  | ok fl =>
    cases fl with
    | ret obj =>
      obtain ⟨rfl, rfl⟩ := hr
      have hT : Shared.TypeIs { s with heap := H0 } (.ref s.heap.objs.size) "set" := ⟨_, g0, rfl⟩
      have hli := F.called_set.init.lookup
      have hbi := F.called_set.init.bind (.ref s.heap.objs.size)
      repeat (any_goals (first | assumption | wp_step))
      refine codeAny_mono (codeAny_call_builtin (R := wants (fun r s₂ => r = .none ∧ ∃ h' tk, s₂ = { s with heap := h', toks := tk } ∧ TxSet w h' s.heap.objs.size xs.reverse ∧ ∀ b o, s.heap.get? b = some o → h'.get? b = some o) E)
        F.called_set.init.plain F.entry_set_init (check_set_init_1 hT ?_)) fun r₂ s₂ hr₂ => ?_
      · obtain ⟨⟨ocls, odict, odata, oslots⟩, hol, hcl, nl, hdl⟩ := hl
        simp only at hcl hdl
        subst hcl hdl
        have hol' : H0.get? l = some { cls := .type "list", dict := odict, data := .seq items nl, slots := oslots } := k0 _ _ hol
        have hsls := F.sub_list_set
        have hslf := F.sub_list_frozenset
        have hne : (Value.type "list" == Value.type "dict") = false := by decide
        have hl1 : H0.IsList l items := ⟨_, hol', rfl, nl, rfl⟩
        unfold Builtin.«set.__init__» noKeywords Builtin.Frozenset.updateFrom
        generalize hPI : pyIter = PI
        wp_walk
        subst hPI
        refine wpAny_pyIter_list hl1 (wpAny_bind (wpAny_runValue ?_))
        have lt : l < s.heap.objs.size := Heap.lt_size hol
        have hne : l ≠ H0.objs.size := by rw [z0]; exact Nat.ne_of_lt (Nat.lt_succ_of_lt lt)
        have hno : s.heap.objs.size ∉ [H0.objs.size, l] := by
          simp only [List.mem_cons, List.not_mem_nil, or_false, not_or, z0]
          exact ⟨Nat.ne_of_lt (Nat.lt_succ_self _), Nat.ne_of_gt lt⟩
        refine tx_update ((Walks.list (by simp [hh]) _ l hne items).toS) s.heap.objs.size hno xs hz few (fun i v hv => ?_) (items.size - 0) 0 _ (by omega) (Nat.zero_le _) ⟨⟨_, Heap.get?_push_size _ rfl, rfl, rfl⟩, (hl1.push _)⟩ (tx_new (Heap.get?_push_of_some _ g0)) ?_
        · exact tx_item hi i v (by rw [Array.getElem?_toList]; exact hv)
        · intro s' hm hs'
          obtain ⟨h', g', d', tk', os'⟩ := s'
          have eg : g' = s.gens := hm.gens
          have ed : d' = s.drawn := hm.drawn
          have eo : os' = s.os := hm.os
          subst eg ed eo
          refine wpAny_pure (wpAny_pure (M := model P w) ⟨rfl, h', tk', rfl, hs', fun b o e => ?_⟩)
          have lb : b < s.heap.objs.size := Heap.lt_size e
          refine hm.heap b o ?_ (Heap.get?_push_of_some _ (k0 _ _ e))
          simp only [List.mem_cons, List.not_mem_nil, or_false, not_or]
          exact ⟨Nat.ne_of_lt lb, by rw [z0]; exact Nat.ne_of_lt (Nat.lt_succ_of_lt lb)⟩
      · cases r₂ with
        | error e => exact hr₂
        | ok fl₂ =>
          cases fl₂ with
          | ret r =>
            obtain ⟨rfl, h', tk, rfl, hs', hk'⟩ := hr₂
            repeat (any_goals (first | assumption | wp_step))
            exact k _ _ hs' hk'
          | _ => exact hr₂.elim
    | _ => exact hr.elim
/-- sorted(found) -/
theorem tx_sorted {Q : Value → Shared → Prop} (R : TxSet w s.heap a l) (hh : A.handled = none)
    (k : ∀ s' p (out : Array Value) (c : Nat) (ys : List Str), (∀ b o, s.heap.get? b = some o → s'.heap.get? b = some o) → s'.gens = s.gens → s'.os = s.os → s.heap.objs.size ≤ p → s'.heap.get? p = some (seqObj "list" out c) →
      StrsAre out.toList ys → ys.Nodup → (∀ x, x ∈ ys ↔ x ∈ l) → sortedS ys = true → Q (.ref p) s') : wpAny (model P w) A (call (.builtin "sorted") [.ref a]) Q E s := by
  obtain ⟨o, es, ep, t, ho, hx, hd, B⟩ := R
  refine Calls.call_function_entry kind_sorted plain_sorted entry_sorted (args_sorted1 _) ?_
  unfold Builtin.«sorted»
  refine wpAny_bind (m := checkCount "sorted" 1 1 _) (wpAny_pure ?_)
  refine wpAny_bind (collect_set (A := A.in1) hh ⟨o, ho, hx.1, hd⟩ B.fit B.few B.ris B.led fun s1 vs k1 hz g1 o1 pm => ?_)
  have vl : vs.length = es.size := by rw [pm.length_eq, List.length_map, Array.length_toList]
  have h1 : ∀ v ∈ vs, ∃ k u, v = Value.str k u := fun v hv => by
    obtain ⟨e, he, q⟩ := List.mem_map.mp (pm.mem_iff.mp hv)
    obtain ⟨k, u, h1, _⟩ := B.one e he
    exact ⟨k, u, by rw [← q]; exact h1⟩
  have hS : StrsAre vs (vs.map fun v => txtOf (0, v)) := by
    clear pm vl
    induction vs with
    | nil => exact .nil
    | cons v vs ih =>
      obtain ⟨k, u, rfl⟩ := h1 v (.head _)
      exact .cons k u (ih fun v hv => h1 v (.tail _ hv))
  have pk : (vs.map fun v => txtOf (0, v)).Perm (es.toList.map txtOf) := by
    have q := pm.map fun v => txtOf (0, v)
    rw [List.map_map] at q
    exact q
  have few : vs.length ≤ sizeLine := by
    have := B.few
    rw [vl]
    exact fits_of_scanBound this
  refine wpAny_bind (wpAny_newList ?_ few)
  have hoL : (s1.heap.push (seqObj "list" vs.toArray 0)).get? s1.heap.objs.size = some (seqObj "list" vs.toArray 0) := Heap.get?_push_size _ rfl
  refine wpAny_bind (wpAny_holding (wpAny_call_entry slot_list_sort ⟨_, hoL, rfl⟩ entry_list_sort
    (list_sort_treeKAny strKind_oneLt hoL hS.keysOf (fun v₁ v₂ rest e => keyKind_strs (by rw [← e]; exact hS)) few fun st' hp hs => ⟨_, rfl, ?_⟩) (args_list_sort _)))
  obtain ⟨ys, a1, a2, a3⟩ := sorted_out_str hS hp hs
  obtain ⟨c, hc⟩ := sortedHeap_at (vs := vs) (out := (arrOf st').map (·.2)) hoL
  have pn : ys.Perm (es.toList.map txtOf) := a2.trans pk
  refine wpAny_pure ⟨_, rfl, k _ s1.heap.objs.size _ c ys (fun b u e => ?_) g1 o1 hz hc a1 (pn.nodup_iff.mpr B.nd) (fun x => by rw [pn.mem_iff, B.mem x]) a3⟩
  have q := k1 b u e
  have hlt := Heap.lt_size q
  show (sortedHeap (s1.heap.push (seqObj "list" vs.toArray 0)) s1.heap.objs.size vs _).get? b = some u
  rw [sortedHeap_old (Nat.ne_of_lt hlt) (by rw [Heap.size_push]; exact Nat.lt_succ_of_lt hlt)]
  exact Heap.get?_push_of_some _ q
end
def TxO (w : World) (a : Addr) (l : List Str) : HO := .ext fun h => TxSet w h a l
theorem txO_new {w : World} {P : Program} {H : Hp} {h : Heap} {a : Addr} {l : List Str} (R : TxSet w h a l) : ObjOk P w H h a (TxO w a l) := by
  have ⟨o, es, ep, t, ho, r⟩ := R
  refine ⟨R, ⟨o, ho⟩, fun h1 h2 p k => ?_⟩
  have ⟨o', es', ep', t', ho', r'⟩ := (show TxSet w h1 a l from p)
  exact ⟨o', es', ep', t', k o' ho', r'⟩
section
variable {X : Cx}
/-- set(xs), xs a list of texts -/
def rSetTx (K : PySem.W.Frag) (w : World) : List V → Hp → VK → Prop := fun vs H Q => ∃ (l : Addr) (xs : List Str), vs = [V.ref l] ∧ SqL K H l (xs.map V.str) ∧ xs.length + 1 < scanBound ∧ ∀ a, H a = none → Q (.ref a) (upd H a (TxO w a xs.reverse))
theorem cr_setTx (hc : X.calm = true) : CallR X (.type "set") (rSetTx X.K X.w) := by
  intro pins s σ H vs us Q I r h
  obtain ⟨l, xs, rfl, hl, few, q⟩ := h
  rw [Vals.ref1 r]
  obtain ⟨its, rv, pl, hz⟩ := I.list hl
  have hn : H s.heap.objs.size = none := I.hok.fresh (Nat.le_refl _)
  exact tx_call (P := X.prog) (w := X.w) xs (I.ok.hd hc) pl.isList (by simpa using rv.strs) few fun h' tk R k =>
    ⟨.ref s.heap.objs.size, upd H s.heap.objs.size (TxO X.w s.heap.objs.size xs.reverse), I.laid (t' := tk) k (Nat.le_refl _) (txO_new R), rfl, q _ hn⟩
/-- sorted(found) of such a set -/
def rSortedTx (w : World) : List V → Hp → VK → Prop := fun vs H Q => ∃ (a : Addr) (l : List Str), vs = [V.ref a] ∧ H a = some (TxO w a l) ∧ l.length ≤ 4096 ∧
  ∀ (ys : List Str) (p : Addr), ys.Nodup → (∀ x, x ∈ ys ↔ x ∈ l) → sortedS ys = true → H p = none → Q (.ref p) (upd H p (.lst (ys.map V.str)))
theorem cr_sortedTx (hc : X.calm = true) : CallR X (.builtin "sorted") (rSortedTx X.w) := by
  intro pins s σ H vs us Q I r h
  obtain ⟨a, l, rfl, ha, few, q⟩ := h
  have R : TxSet X.w s.heap a l := (I.hok a _ ha).1
  rw [Vals.ref1 r]
  refine tx_sorted (P := X.prog) R (I.ok.hd hc) fun s' p out c ys k g o hp hg hi nd mem srt => ?_
  have hlen : (ys.map V.str).length ≤ sizeLine := by
    rw [List.length_map, sizeLine_eq]
    have := len_sub ys l nd fun x hx => (mem x).1 hx
    omega
  have hn : H p = none := I.hok.fresh hp
  have J : Inv X pins σ (upd H p (.lst (ys.map V.str))) { s with heap := s'.heap, gens := s'.gens, drawn := s'.drawn, toks := s'.toks } :=
    I.call (ch := []) (Un.laid k hp hn) (I.hok.laid k hp ⟨hlen, out.toList, c, vals_of_strs hi, hg⟩) (by rw [g]; exact I.bare) (fun _ z => nomatch z)
  have e : s' = { s with heap := s'.heap, gens := s'.gens, drawn := s'.drawn, toks := s'.toks } := by
    cases s'
    cases s
    cases o
    rfl
  rw [e]
  exact ⟨.ref p, _, J, rfl, q ys p nd mem srt hn⟩
end
end Z
set_option maxHeartbeats 4000000
namespace Z
open PySem PySem.Spec PyProof.Rows L2
/-- a list or a tuple that is read -/
def SqA (K : PySem.W.Frag) (H : Hp) (a : Addr) (xs : List V) : Prop := SqL K H a xs ∨ SqT K H a xs
/-- a walk of a list or a tuple -/
def iAny (K : PySem.W.Frag) (tl : TE) : TI := fun σ H R => tl σ H fun x H1 => ∃ a, x = .ref a ∧ (((∃ xs, SqL K H1 a xs) ∧ R (Itl K a) H1) ∨ ((∃ xs, SqT K H1 a xs) ∧ R (Itt K a) H1))
theorem pi_any {X : Cx} {tg l : Expr} {tl : TE} (hl : PE X l tl) : PI X tg l (iAny X.K tl) := by
  refine ⟨fun pins s σ H R I h => thn (hl.run pins s σ H _ I h) fun v s1 ⟨x, H1, I1, r1, a, e, q⟩ => ?_⟩
  subst e
  cases r1
  have new : Inv X pins σ H1 s1 → H1 s1.heap.objs.size = none := fun I => I.hok.fresh (Nat.le_refl _)
  rcases q with ⟨⟨xs, hq⟩, q⟩ | ⟨⟨xs, hq⟩, q⟩
  · obtain ⟨its, rv, p, hz⟩ := I1.list hq
    refine wpAny_pyIter_list p.isList ⟨s1.heap.objs.size, [s1.heap.objs.size], _, _, H1, rfl, I1.kept (t' := s1.toks) fun b o e => Heap.get?_push_of_some _ e, turn_list a _, ⟨_, Heap.get?_push_size _ rfl, rfl, rfl⟩, fun b hb => ?_, q⟩
    rw [List.mem_singleton.mp hb]
    exact I1.fpOk (Nat.le_refl _) (new I1)
  · obtain ⟨its, rv, p, hz⟩ := I1.tuple hq
    refine wpAny_pyIter_tuple (show s1.heap.IsTuple a its.toArray from p) ⟨s1.heap.objs.size, [s1.heap.objs.size], _, _, H1, rfl, I1.kept (t' := s1.toks) fun b o e => Heap.get?_push_of_some _ e, turn_tuple a _, ⟨_, Heap.get?_push_size _ rfl, rfl, rfl⟩, fun b hb => ?_, q⟩
    rw [List.mem_singleton.mp hb]
    exact I1.fpOk (Nat.le_refl _) (new I1)
/-- a comprehension over the signs of a text -/
theorem lc_str {x : Str} {g : TG} {tt : TT} {te : TE} {vs : List Nat} {σ : L2.St} {H1 : Hp} {D : Addr} {Qd : Hp → Prop} (Pv : Nat → Hp → Prop) (h0 : Pv 0 (upd H1 D (.lst [])))
    (hs : ∀ i c H, x.cps[i]? = some c → Pv i H → g (.str ⟨#[c]⟩) (wipe σ vs) H fun σ2 H2 => wipe σ2 vs = wipe σ vs ∧ tt σ2 H2 fun b H3 =>
      if b = true then te σ2 H3 fun y H4 => ∃ acc, H4 D = some (.lst acc) ∧ acc.length < sizeLine ∧ Pv (i + 1) (upd H4 D (.lst (acc ++ [y]))) else Pv (i + 1) H3) (hd : ∀ H, Pv x.cps.size H → Qd H) :
    ∃ W : Nat → Nat → Hp → Prop, (∃ m, W 0 m (upd H1 D (.lst []))) ∧ ∀ i m H, W i m H →
      ((Its x).stop i H ∧ Qd H) ∨ ((Its x).go i H ∧ ∃ Nx : Hp → Prop, (∀ H', Nx H' → ∃ m', m' < m ∧ W (i + 1) m' H') ∧ ∀ v H', (Its x).yld i H v H' → g v (wipe σ vs) H' fun σ2 H2 => wipe σ2 vs = wipe σ vs ∧ tt σ2 H2 fun b H3 =>
        if b = true then te σ2 H3 fun y H4 => ∃ acc, H4 D = some (.lst acc) ∧ acc.length < sizeLine ∧ Nx (upd H4 D (.lst (acc ++ [y]))) else Nx H3) := by
  refine ⟨fun i m H => m = x.cps.size - i ∧ i ≤ x.cps.size ∧ Pv i H, ⟨x.cps.size, by simp, Nat.zero_le _, h0⟩, ?_⟩
  rintro i m H ⟨rfl, hi, p⟩
  rcases Nat.lt_or_ge i x.cps.size with lt | ge
  · refine .inr ⟨lt, Pv (i + 1), fun H' p' => ⟨x.cps.size - (i + 1), by omega, rfl, lt, p'⟩, fun v H' y => ?_⟩
    obtain ⟨rfl, c, hc, rfl⟩ := y
    exact hs i c _ hc p
  · obtain rfl : i = x.cps.size := by omega
    exact .inl ⟨Nat.le_refl _, hd H p⟩
end Z
namespace Z
open PySem PySem.Spec PyProof.Rows L2
theorem pe_fldK {X : Cx} {K : PySem.W.Frag} {e : Expr} {n : Str} {te : TE} {pos : Pos} (hK : X.K = K) (he : PE X e te) (hb : attributeBase e n X.env (eval e X.env) = eval e X.env := by rfl) : PE X (.Attribute e n pos) (tFld K te n) := by
  subst hK
  exact pe_fld he hb
end Z
set_option maxHeartbeats 4000000
namespace K28
open PySem PySem.Spec PyProof.Rows L2 Z
/-- the default object of a keyword-only parameter of Statement -/
def kwAt (x : Str) (K : PySem.W.Frag) : Addr := match K.lookup (He.fAd K ("Statement", some "__init__")) with
  | some ⟨_, _, .func fd, _⟩ => (match fd.kwdefaults with
    | .ref D => (match PySem.W.nsIn K D x with
      | some (some (.ref a)) => a
      | _ => 0)
    | _ => 0)
  | _ => 0
/-- the default object of a keyword-only parameter -/
def kwDef (at_ : Str × Option Str) (x : Str) (K : PySem.W.Frag) : Addr := match K.lookup (He.fAd K at_) with
  | some ⟨_, _, .func fd, _⟩ => (match fd.kwdefaults with
    | .ref D => (match PySem.W.nsIn K D x with
      | some (some (.ref a)) => a
      | _ => 0)
    | _ => 0)
  | _ => 0
abbrev kwSt : PySem.W.Frag → Addr := kwDef ("Stepper", some "__init__") "start"
abbrev kwRu : PySem.W.Frag → Addr := kwDef ("run_program", none) "start"
end K28
namespace K28
open PySem PySem.Spec PyProof.Rows L2 Z
def top (i : Nat) : Stmt := PySem.Challenge.pw_loopsize_k28_whole_steps_back_and_forth.main.body.getD i (.Pass ⟨0, 0, 0, 0⟩)
abbrev s_wall : Stmt := top 1
abbrev s_is_integer : Stmt := top 15
abbrev s_is_integer_from : Stmt := top 16
abbrev s_is_size : Stmt := top 17
abbrev s_is_array_name : Stmt := top 18
abbrev s_is_straight : Stmt := top 22
abbrev s_straight_like : Stmt := top 23
abbrev s_place_like : Stmt := top 24
abbrev s_value_of : Stmt := top 25
abbrev s_added : Stmt := top 26
abbrev s_turns_from : Stmt := top 45
abbrev s_arrays_in : Stmt := top 46
abbrev s_check_many : Stmt := top 47
abbrev s_check_name : Stmt := top 48
abbrev s_check_number : Stmt := top 49
abbrev s_check_sum : Stmt := top 50
abbrev s_check_place : Stmt := top 51
abbrev s_check_range_place : Stmt := top 52
abbrev s_first_value : Stmt := top 58
abbrev s_held_value : Stmt := top 59
abbrev s_value_in : Stmt := top 60
abbrev s_check_run : Stmt := top 61
abbrev s_first_cells : Stmt := top 62
abbrev s_works_of : Stmt := top 63
abbrev s_statement_of : Stmt := top 64
abbrev s_write_of : Stmt := top 65
abbrev s_run_program : Stmt := top 66
abbrev s_first_difference : Stmt := top 67
abbrev s_law_pen : Stmt := top 69
abbrev s_law_draw : Stmt := top 70
abbrev s_law_pick : Stmt := top 71
abbrev s_law_big : Stmt := top 72
abbrev s_law_between : Stmt := top 73
abbrev s_law_far : Stmt := top 74
abbrev s_law_name : Stmt := top 75
abbrev s_law_names : Stmt := top 76
abbrev s_law_value : Stmt := top 77
abbrev s_law_guard_holds : Stmt := top 78
abbrev s_law_small_guard : Stmt := top 79
abbrev s_law_small_statement : Stmt := top 80
abbrev s_law_small_loop : Stmt := top 81
abbrev s_law_small_rows : Stmt := top 82
abbrev s_law_counters : Stmt := top 83
abbrev s_law_works : Stmt := top 84
abbrev s_law_sum : Stmt := top 85
abbrev s_law_made_guard : Stmt := top 86
abbrev s_law_made_statement : Stmt := top 87
abbrev s_law_made_loop : Stmt := top 88
abbrev s_law_made : Stmt := top 89
abbrev s_law_input : Stmt := top 90
abbrev s_law_result : Stmt := top 91
abbrev s_law_states : Stmt := top 92
abbrev s_law_deed_told : Stmt := top 93
abbrev s_law_deed_due : Stmt := top 94
abbrev s_law_is_at : Stmt := top 95
abbrev s_law_walk_right : Stmt := top 96
abbrev s_law_refused : Stmt := top 97
abbrev s_law_refusals_right : Stmt := top 98
abbrev s_law : Stmt := top 99
abbrev iBadName__init__ : Stmt := inClass (top 4) 0
abbrev iBadNumber__init__ : Stmt := inClass (top 5) 0
abbrev iBadSize__init__ : Stmt := inClass (top 6) 0
abbrev iTooMany__init__ : Stmt := inClass (top 7) 0
abbrev iTooLong__init__ : Stmt := inClass (top 8) 0
abbrev iStraight__init__ : Stmt := inClass (top 20) 0
abbrev iStraight__call__ : Stmt := inClass (top 20) 1
abbrev iPlace__init__ : Stmt := inClass (top 21) 0
abbrev iPlace__call__ : Stmt := inClass (top 21) 1
abbrev iAtLeast__init__ : Stmt := inClass (top 29) 0
abbrev iAtLeastholds : Stmt := inClass (top 29) 1
abbrev iRest__init__ : Stmt := inClass (top 30) 0
abbrev iRestholds : Stmt := inClass (top 30) 1
abbrev iRead__init__ : Stmt := inClass (top 41) 0
abbrev iStatement__init__ : Stmt := inClass (top 42) 0
abbrev iStatementis_done : Stmt := inClass (top 42) 1
abbrev iLoop__init__ : Stmt := inClass (top 43) 0
abbrev iLoopmany_turns : Stmt := inClass (top 43) 1
abbrev iLoopcounter_of : Stmt := inClass (top 43) 2
abbrev iLoopleast_counter : Stmt := inClass (top 43) 4
abbrev iProgram__init__ : Stmt := inClass (top 44) 0
abbrev iRun__init__ : Stmt := inClass (top 56) 0
abbrev iRunvalue_of : Stmt := inClass (top 56) 1
abbrev iRuncells_of : Stmt := inClass (top 56) 2
abbrev iStepper__init__ : Stmt := inClass (top 57) 0
abbrev iSteppermany_done : Stmt := inClass (top 57) 1
abbrev iSteppernext_work : Stmt := inClass (top 57) 2
abbrev iStepperdo_work : Stmt := inClass (top 57) 3
abbrev iStepperundo_work : Stmt := inClass (top 57) 4
abbrev iSteppergo_to : Stmt := inClass (top 57) 5
abbrev iSteppervalue_of : Stmt := inClass (top 57) 6
def d_wall : He.DefD := ⟨("_wall", none), "_wall", "_wall", defArgs s_wall, defBody s_wall, defScope s_wall, [], []⟩
def d_is_integer : He.DefD := ⟨("is_integer", none), "is_integer", "is_integer", defArgs s_is_integer, defBody s_is_integer, defScope s_is_integer, [], []⟩
def d_is_integer_from : He.DefD := ⟨("is_integer_from", none), "is_integer_from", "is_integer_from", defArgs s_is_integer_from, defBody s_is_integer_from, defScope s_is_integer_from, [], []⟩
def d_is_size : He.DefD := ⟨("is_size", none), "is_size", "is_size", defArgs s_is_size, defBody s_is_size, defScope s_is_size, [], []⟩
def d_is_array_name : He.DefD := ⟨("is_array_name", none), "is_array_name", "is_array_name", defArgs s_is_array_name, defBody s_is_array_name, defScope s_is_array_name, [], []⟩
def d_is_straight : He.DefD := ⟨("is_straight", none), "is_straight", "is_straight", defArgs s_is_straight, defBody s_is_straight, defScope s_is_straight, [], []⟩
def d_straight_like : He.DefD := ⟨("straight_like", none), "straight_like", "straight_like", defArgs s_straight_like, defBody s_straight_like, defScope s_straight_like, [], []⟩
def d_place_like : He.DefD := ⟨("place_like", none), "place_like", "place_like", defArgs s_place_like, defBody s_place_like, defScope s_place_like, [], []⟩
def d_value_of : He.DefD := ⟨("value_of", none), "value_of", "value_of", defArgs s_value_of, defBody s_value_of, defScope s_value_of, [], []⟩
def d_added : He.DefD := ⟨("added", none), "added", "added", defArgs s_added, defBody s_added, defScope s_added, [], []⟩
def d_turns_from : He.DefD := ⟨("turns_from", none), "turns_from", "turns_from", defArgs s_turns_from, defBody s_turns_from, defScope s_turns_from, [], []⟩
def d_arrays_in : He.DefD := ⟨("arrays_in", none), "arrays_in", "arrays_in", defArgs s_arrays_in, defBody s_arrays_in, defScope s_arrays_in, [], []⟩
def d_check_many : He.DefD := ⟨("check_many", none), "check_many", "check_many", defArgs s_check_many, defBody s_check_many, defScope s_check_many, [], []⟩
def d_check_name : He.DefD := ⟨("check_name", none), "check_name", "check_name", defArgs s_check_name, defBody s_check_name, defScope s_check_name, [], []⟩
def d_check_number : He.DefD := ⟨("check_number", none), "check_number", "check_number", defArgs s_check_number, defBody s_check_number, defScope s_check_number, [], []⟩
def d_check_sum : He.DefD := ⟨("check_sum", none), "check_sum", "check_sum", defArgs s_check_sum, defBody s_check_sum, defScope s_check_sum, [], []⟩
def d_check_place : He.DefD := ⟨("check_place", none), "check_place", "check_place", defArgs s_check_place, defBody s_check_place, defScope s_check_place, [], []⟩
def d_check_range_place : He.DefD := ⟨("check_range_place", none), "check_range_place", "check_range_place", defArgs s_check_range_place, defBody s_check_range_place, defScope s_check_range_place, [], []⟩
def d_first_value : He.DefD := ⟨("first_value", none), "first_value", "first_value", defArgs s_first_value, defBody s_first_value, defScope s_first_value, [], []⟩
def d_held_value : He.DefD := ⟨("held_value", none), "held_value", "held_value", defArgs s_held_value, defBody s_held_value, defScope s_held_value, [], []⟩
def d_value_in : He.DefD := ⟨("value_in", none), "value_in", "value_in", defArgs s_value_in, defBody s_value_in, defScope s_value_in, [], []⟩
def d_check_run : He.DefD := ⟨("check_run", none), "check_run", "check_run", defArgs s_check_run, defBody s_check_run, defScope s_check_run, [], []⟩
def d_first_cells : He.DefD := ⟨("first_cells", none), "first_cells", "first_cells", defArgs s_first_cells, defBody s_first_cells, defScope s_first_cells, [], []⟩
def d_works_of : He.DefD := ⟨("works_of", none), "works_of", "works_of", defArgs s_works_of, defBody s_works_of, defScope s_works_of, [], []⟩
def d_statement_of : He.DefD := ⟨("statement_of", none), "statement_of", "statement_of", defArgs s_statement_of, defBody s_statement_of, defScope s_statement_of, [], []⟩
def d_write_of : He.DefD := ⟨("write_of", none), "write_of", "write_of", defArgs s_write_of, defBody s_write_of, defScope s_write_of, [], []⟩
def d_run_program : He.DefD := ⟨("run_program", none), "run_program", "run_program", defArgs s_run_program, defBody s_run_program, defScope s_run_program, [], [("start", .adr kwRu)]⟩
def d_first_difference : He.DefD := ⟨("first_difference", none), "first_difference", "first_difference", defArgs s_first_difference, defBody s_first_difference, defScope s_first_difference, [], []⟩
def d_law_pen : He.DefD := ⟨("_law_pen", none), "_law_pen", "_law_pen", defArgs s_law_pen, defBody s_law_pen, defScope s_law_pen, [], []⟩
def d_law_draw : He.DefD := ⟨("_law_draw", none), "_law_draw", "_law_draw", defArgs s_law_draw, defBody s_law_draw, defScope s_law_draw, [], []⟩
def d_law_pick : He.DefD := ⟨("_law_pick", none), "_law_pick", "_law_pick", defArgs s_law_pick, defBody s_law_pick, defScope s_law_pick, [], []⟩
def d_law_big : He.DefD := ⟨("_law_big", none), "_law_big", "_law_big", defArgs s_law_big, defBody s_law_big, defScope s_law_big, [], []⟩
def d_law_between : He.DefD := ⟨("_law_between", none), "_law_between", "_law_between", defArgs s_law_between, defBody s_law_between, defScope s_law_between, [], []⟩
def d_law_far : He.DefD := ⟨("_law_far", none), "_law_far", "_law_far", defArgs s_law_far, defBody s_law_far, defScope s_law_far, [], []⟩
def d_law_name : He.DefD := ⟨("_law_name", none), "_law_name", "_law_name", defArgs s_law_name, defBody s_law_name, defScope s_law_name, [], []⟩
def d_law_names : He.DefD := ⟨("_law_names", none), "_law_names", "_law_names", defArgs s_law_names, defBody s_law_names, defScope s_law_names, [], []⟩
def d_law_value : He.DefD := ⟨("_law_value", none), "_law_value", "_law_value", defArgs s_law_value, defBody s_law_value, defScope s_law_value, [], []⟩
def d_law_guard_holds : He.DefD := ⟨("_law_guard_holds", none), "_law_guard_holds", "_law_guard_holds", defArgs s_law_guard_holds, defBody s_law_guard_holds, defScope s_law_guard_holds, [], []⟩
def d_law_small_guard : He.DefD := ⟨("_law_small_guard", none), "_law_small_guard", "_law_small_guard", defArgs s_law_small_guard, defBody s_law_small_guard, defScope s_law_small_guard, [], []⟩
def d_law_small_statement : He.DefD := ⟨("_law_small_statement", none), "_law_small_statement", "_law_small_statement", defArgs s_law_small_statement, defBody s_law_small_statement, defScope s_law_small_statement, [], []⟩
def d_law_small_loop : He.DefD := ⟨("_law_small_loop", none), "_law_small_loop", "_law_small_loop", defArgs s_law_small_loop, defBody s_law_small_loop, defScope s_law_small_loop, [], []⟩
def d_law_small_rows : He.DefD := ⟨("_law_small_rows", none), "_law_small_rows", "_law_small_rows", defArgs s_law_small_rows, defBody s_law_small_rows, defScope s_law_small_rows, [], []⟩
def d_law_counters : He.DefD := ⟨("_law_counters", none), "_law_counters", "_law_counters", defArgs s_law_counters, defBody s_law_counters, defScope s_law_counters, [], []⟩
def d_law_works : He.DefD := ⟨("_law_works", none), "_law_works", "_law_works", defArgs s_law_works, defBody s_law_works, defScope s_law_works, [], []⟩
def d_law_sum : He.DefD := ⟨("_law_sum", none), "_law_sum", "_law_sum", defArgs s_law_sum, defBody s_law_sum, defScope s_law_sum, [], []⟩
def d_law_made_guard : He.DefD := ⟨("_law_made_guard", none), "_law_made_guard", "_law_made_guard", defArgs s_law_made_guard, defBody s_law_made_guard, defScope s_law_made_guard, [], []⟩
def d_law_made_statement : He.DefD := ⟨("_law_made_statement", none), "_law_made_statement", "_law_made_statement", defArgs s_law_made_statement, defBody s_law_made_statement, defScope s_law_made_statement, [], []⟩
def d_law_made_loop : He.DefD := ⟨("_law_made_loop", none), "_law_made_loop", "_law_made_loop", defArgs s_law_made_loop, defBody s_law_made_loop, defScope s_law_made_loop, [], []⟩
def d_law_made : He.DefD := ⟨("_law_made", none), "_law_made", "_law_made", defArgs s_law_made, defBody s_law_made, defScope s_law_made, [], []⟩
def d_law_input : He.DefD := ⟨("_law_input", none), "_law_input", "_law_input", defArgs s_law_input, defBody s_law_input, defScope s_law_input, [], []⟩
def d_law_result : He.DefD := ⟨("_law_result", none), "_law_result", "_law_result", defArgs s_law_result, defBody s_law_result, defScope s_law_result, [], []⟩
def d_law_states : He.DefD := ⟨("_law_states", none), "_law_states", "_law_states", defArgs s_law_states, defBody s_law_states, defScope s_law_states, [], []⟩
def d_law_deed_told : He.DefD := ⟨("_law_deed_told", none), "_law_deed_told", "_law_deed_told", defArgs s_law_deed_told, defBody s_law_deed_told, defScope s_law_deed_told, [], []⟩
def d_law_deed_due : He.DefD := ⟨("_law_deed_due", none), "_law_deed_due", "_law_deed_due", defArgs s_law_deed_due, defBody s_law_deed_due, defScope s_law_deed_due, [], []⟩
def d_law_is_at : He.DefD := ⟨("_law_is_at", none), "_law_is_at", "_law_is_at", defArgs s_law_is_at, defBody s_law_is_at, defScope s_law_is_at, [], []⟩
def d_law_walk_right : He.DefD := ⟨("_law_walk_right", none), "_law_walk_right", "_law_walk_right", defArgs s_law_walk_right, defBody s_law_walk_right, defScope s_law_walk_right, [], []⟩
def d_law_refused : He.DefD := ⟨("_law_refused", none), "_law_refused", "_law_refused", defArgs s_law_refused, defBody s_law_refused, defScope s_law_refused, [], []⟩
def d_law_refusals_right : He.DefD := ⟨("_law_refusals_right", none), "_law_refusals_right", "_law_refusals_right", defArgs s_law_refusals_right, defBody s_law_refusals_right, defScope s_law_refusals_right, [], []⟩
def d_law : He.DefD := ⟨("law", none), "law", "law", defArgs s_law, defBody s_law, defScope s_law, [], []⟩
def dBadName__init__ : He.DefD := ⟨("BadName", some "__init__"), "__init__", "BadName.__init__", defArgs iBadName__init__, defBody iBadName__init__, defScope iBadName__init__, [], []⟩
def dBadNumber__init__ : He.DefD := ⟨("BadNumber", some "__init__"), "__init__", "BadNumber.__init__", defArgs iBadNumber__init__, defBody iBadNumber__init__, defScope iBadNumber__init__, [], []⟩
def dBadSize__init__ : He.DefD := ⟨("BadSize", some "__init__"), "__init__", "BadSize.__init__", defArgs iBadSize__init__, defBody iBadSize__init__, defScope iBadSize__init__, [], []⟩
def dTooMany__init__ : He.DefD := ⟨("TooMany", some "__init__"), "__init__", "TooMany.__init__", defArgs iTooMany__init__, defBody iTooMany__init__, defScope iTooMany__init__, [], []⟩
def dTooLong__init__ : He.DefD := ⟨("TooLong", some "__init__"), "__init__", "TooLong.__init__", defArgs iTooLong__init__, defBody iTooLong__init__, defScope iTooLong__init__, [], []⟩
def dStraight__init__ : He.DefD := ⟨("Straight", some "__init__"), "__init__", "Straight.__init__", defArgs iStraight__init__, defBody iStraight__init__, defScope iStraight__init__, [], []⟩
def dStraight__call__ : He.DefD := ⟨("Straight", some "__call__"), "__call__", "Straight.__call__", defArgs iStraight__call__, defBody iStraight__call__, defScope iStraight__call__, [], []⟩
def dPlace__init__ : He.DefD := ⟨("Place", some "__init__"), "__init__", "Place.__init__", defArgs iPlace__init__, defBody iPlace__init__, defScope iPlace__init__, [], []⟩
def dPlace__call__ : He.DefD := ⟨("Place", some "__call__"), "__call__", "Place.__call__", defArgs iPlace__call__, defBody iPlace__call__, defScope iPlace__call__, [], []⟩
def dAtLeast__init__ : He.DefD := ⟨("AtLeast", some "__init__"), "__init__", "AtLeast.__init__", defArgs iAtLeast__init__, defBody iAtLeast__init__, defScope iAtLeast__init__, [], []⟩
def dAtLeastholds : He.DefD := ⟨("AtLeast", some "holds"), "holds", "AtLeast.holds", defArgs iAtLeastholds, defBody iAtLeastholds, defScope iAtLeastholds, [], []⟩
def dRest__init__ : He.DefD := ⟨("Rest", some "__init__"), "__init__", "Rest.__init__", defArgs iRest__init__, defBody iRest__init__, defScope iRest__init__, [], []⟩
def dRestholds : He.DefD := ⟨("Rest", some "holds"), "holds", "Rest.holds", defArgs iRestholds, defBody iRestholds, defScope iRestholds, [], []⟩
def dRead__init__ : He.DefD := ⟨("Read", some "__init__"), "__init__", "Read.__init__", defArgs iRead__init__, defBody iRead__init__, defScope iRead__init__, [], [("factor", .int 1)]⟩
def dStatement__init__ : He.DefD := ⟨("Statement", some "__init__"), "__init__", "Statement.__init__", defArgs iStatement__init__, defBody iStatement__init__, defScope iStatement__init__, [], [("reads", .adr (kwAt "reads")), ("conditions", .adr (kwAt "conditions"))]⟩
def dStatementis_done : He.DefD := ⟨("Statement", some "is_done"), "is_done", "Statement.is_done", defArgs iStatementis_done, defBody iStatementis_done, defScope iStatementis_done, [], []⟩
def dLoop__init__ : He.DefD := ⟨("Loop", some "__init__"), "__init__", "Loop.__init__", defArgs iLoop__init__, defBody iLoop__init__, defScope iLoop__init__, [], [("step", .int 1), ("down", .bl false)]⟩
def dLoopmany_turns : He.DefD := ⟨("Loop", some "many_turns"), "many_turns", "Loop.many_turns", defArgs iLoopmany_turns, defBody iLoopmany_turns, defScope iLoopmany_turns, [], []⟩
def dLoopcounter_of : He.DefD := ⟨("Loop", some "counter_of"), "counter_of", "Loop.counter_of", defArgs iLoopcounter_of, defBody iLoopcounter_of, defScope iLoopcounter_of, [], []⟩
def dLoopleast_counter : He.DefD := ⟨("Loop", some "least_counter"), "least_counter", "Loop.least_counter", defArgs iLoopleast_counter, defBody iLoopleast_counter, defScope iLoopleast_counter, [], []⟩
def dProgram__init__ : He.DefD := ⟨("Program", some "__init__"), "__init__", "Program.__init__", defArgs iProgram__init__, defBody iProgram__init__, defScope iProgram__init__, [], []⟩
def dRun__init__ : He.DefD := ⟨("Run", some "__init__"), "__init__", "Run.__init__", defArgs iRun__init__, defBody iRun__init__, defScope iRun__init__, [], []⟩
def dRunvalue_of : He.DefD := ⟨("Run", some "value_of"), "value_of", "Run.value_of", defArgs iRunvalue_of, defBody iRunvalue_of, defScope iRunvalue_of, [], []⟩
def dRuncells_of : He.DefD := ⟨("Run", some "cells_of"), "cells_of", "Run.cells_of", defArgs iRuncells_of, defBody iRuncells_of, defScope iRuncells_of, [], []⟩
def dStepper__init__ : He.DefD := ⟨("Stepper", some "__init__"), "__init__", "Stepper.__init__", defArgs iStepper__init__, defBody iStepper__init__, defScope iStepper__init__, [], [("start", .adr kwSt)]⟩
def dSteppermany_done : He.DefD := ⟨("Stepper", some "many_done"), "many_done", "Stepper.many_done", defArgs iSteppermany_done, defBody iSteppermany_done, defScope iSteppermany_done, [], []⟩
def dSteppernext_work : He.DefD := ⟨("Stepper", some "next_work"), "next_work", "Stepper.next_work", defArgs iSteppernext_work, defBody iSteppernext_work, defScope iSteppernext_work, [], []⟩
def dStepperdo_work : He.DefD := ⟨("Stepper", some "do_work"), "do_work", "Stepper.do_work", defArgs iStepperdo_work, defBody iStepperdo_work, defScope iStepperdo_work, [], []⟩
def dStepperundo_work : He.DefD := ⟨("Stepper", some "undo_work"), "undo_work", "Stepper.undo_work", defArgs iStepperundo_work, defBody iStepperundo_work, defScope iStepperundo_work, [], []⟩
def dSteppergo_to : He.DefD := ⟨("Stepper", some "go_to"), "go_to", "Stepper.go_to", defArgs iSteppergo_to, defBody iSteppergo_to, defScope iSteppergo_to, [], []⟩
def dSteppervalue_of : He.DefD := ⟨("Stepper", some "value_of"), "value_of", "Stepper.value_of", defArgs iSteppervalue_of, defBody iSteppervalue_of, defScope iSteppervalue_of, [], []⟩
def fn0 : List He.DefD := [d_wall, d_is_integer, d_is_integer_from, d_is_size, d_is_array_name, d_is_straight, d_straight_like, d_place_like]
def fn1 : List He.DefD := [d_value_of, d_added, d_turns_from, d_arrays_in, d_check_many, d_check_name, d_check_number, d_check_sum]
def fn2 : List He.DefD := [d_check_place, d_check_range_place, d_first_value, d_held_value, d_value_in, d_check_run, d_first_cells, d_works_of]
def fn3 : List He.DefD := [d_statement_of, d_write_of, d_run_program, d_first_difference, d_law_pen, d_law_draw, d_law_pick, d_law_big]
def fn4 : List He.DefD := [d_law_between, d_law_far, d_law_name, d_law_names, d_law_value, d_law_guard_holds, d_law_small_guard, d_law_small_statement]
def fn5 : List He.DefD := [d_law_small_loop, d_law_small_rows, d_law_counters, d_law_works, d_law_sum, d_law_made_guard, d_law_made_statement, d_law_made_loop]
def fn6 : List He.DefD := [d_law_made, d_law_input, d_law_result, d_law_states, d_law_deed_told, d_law_deed_due, d_law_is_at, d_law_walk_right]
def fn7 : List He.DefD := [d_law_refused, d_law_refusals_right, d_law, dBadName__init__, dBadNumber__init__, dBadSize__init__, dTooMany__init__, dTooLong__init__]
def fn8 : List He.DefD := [dStraight__init__, dStraight__call__, dPlace__init__, dPlace__call__, dAtLeast__init__, dAtLeastholds, dRest__init__, dRestholds]
def fn9 : List He.DefD := [dRead__init__, dStatement__init__, dStatementis_done, dLoop__init__, dLoopmany_turns, dLoopcounter_of, dLoopleast_counter, dProgram__init__]
def fn10 : List He.DefD := [dRun__init__, dRunvalue_of, dRuncells_of, dStepper__init__, dSteppermany_done, dSteppernext_work, dStepperdo_work, dStepperundo_work]
def fn11 : List He.DefD := [dSteppergo_to, dSteppervalue_of]
def fnP0 : List He.DefD := fn0 ++ fn1 ++ fn2 ++ fn3
def fnP1 : List He.DefD := fn4 ++ fn5 ++ fn6 ++ fn7
def fnP2 : List He.DefD := fn8 ++ fn9 ++ fn10 ++ fn11
def fn : List He.DefD := fnP0 ++ fnP1 ++ fnP2
def glos0 : List Str := ["LoopError", "BadName", "BadNumber", "BadSize", "TooMany", "TooLong", "AtEnd", "AtStart"]
def glos1 : List Str := ["Straight", "Place", "AtLeast", "Rest", "Read", "Statement", "Loop", "Program"]
def glos2 : List Str := ["Run", "Stepper", "_wall", "is_integer", "is_integer_from", "is_size", "is_array_name", "is_straight"]
def glos3 : List Str := ["straight_like", "place_like", "value_of", "added", "turns_from", "arrays_in", "check_many", "check_name"]
def glos4 : List Str := ["check_number", "check_sum", "check_place", "check_range_place", "first_value", "held_value", "value_in", "check_run"]
def glos5 : List Str := ["first_cells", "works_of", "statement_of", "write_of", "run_program", "first_difference", "_law_pen", "_law_draw"]
def glos6 : List Str := ["_law_pick", "_law_big", "_law_between", "_law_far", "_law_name", "_law_names", "_law_value", "_law_guard_holds"]
def glos7 : List Str := ["_law_small_guard", "_law_small_statement", "_law_small_loop", "_law_small_rows", "_law_counters", "_law_works", "_law_sum", "_law_made_guard"]
def glos8 : List Str := ["_law_made_statement", "_law_made_loop", "_law_made", "_law_input", "_law_result", "_law_states", "_law_deed_told", "_law_deed_due"]
def glos9 : List Str := ["_law_is_at", "_law_walk_right", "_law_refused", "_law_refusals_right", "law"]
def glos : List Str := glos0 ++ glos1 ++ glos2 ++ glos3 ++ glos4 ++ glos5 ++ glos6 ++ glos7 ++ glos8 ++ glos9
def frees0 : List Str := ["int", "len", "list", "isinstance", "range", "str", "bool", "max"]
def frees1 : List Str := ["min", "tuple", "all", "set", "sorted", "enumerate", "sum"]
def frees : List Str := frees0 ++ frees1
def owns0 : List Str := ["Straight", "Place", "AtLeast", "Rest", "Read", "Statement", "Loop", "Program"]
def owns1 : List Str := ["Run", "Stepper"]
def owns : List Str := owns0 ++ owns1
def atts0 : List (Str × Str) := [("Straight", "i"), ("Straight", "n"), ("Straight", "one"), ("Place", "straight"), ("Place", "divisor"), ("AtLeast", "straight"), ("Rest", "straight"), ("Rest", "modulus")]
def atts1 : List (Str × Str) := [("Rest", "rest"), ("Read", "array"), ("Read", "place"), ("Read", "factor"), ("Statement", "array"), ("Statement", "cell"), ("Statement", "constant"), ("Statement", "reads")]
def atts2 : List (Str × Str) := [("Statement", "conditions"), ("Loop", "low"), ("Loop", "high"), ("Loop", "statements"), ("Loop", "step"), ("Loop", "down"), ("Program", "loops"), ("Program", "arrays")]
def atts3 : List (Str × Str) := [("Program", "known"), ("Run", "many_works"), ("Run", "cells"), ("Stepper", "program"), ("Stepper", "n"), ("Stepper", "works"), ("Stepper", "cells"), ("Stepper", "overwritten")]
def atts : List (Str × Str) := atts0 ++ atts1 ++ atts2 ++ atts3
def mets0 : List (Str × Str) := [("Straight", "__init__"), ("Straight", "__call__"), ("Place", "__init__"), ("Place", "__call__"), ("AtLeast", "__init__"), ("AtLeast", "holds"), ("Rest", "__init__"), ("Rest", "holds")]
def mets1 : List (Str × Str) := [("Read", "__init__"), ("Statement", "__init__"), ("Statement", "is_done"), ("Loop", "__init__"), ("Loop", "many_turns"), ("Loop", "counter_of"), ("Loop", "least_counter"), ("Program", "__init__")]
def mets2 : List (Str × Str) := [("Run", "__init__"), ("Run", "value_of"), ("Run", "cells_of"), ("Stepper", "__init__"), ("Stepper", "many_done"), ("Stepper", "next_work"), ("Stepper", "do_work"), ("Stepper", "undo_work")]
def mets3 : List (Str × Str) := [("Stepper", "go_to"), ("Stepper", "value_of")]
def mets : List (Str × Str) := mets0 ++ mets1 ++ mets2 ++ mets3
def oprs0 : List (Str × String) := []
def oprs : List (Str × String) := oprs0
def excs0 : List (Str × List Str) := [("BadName", ["name"]), ("BadNumber", ["what", "number"]), ("BadSize", ["n"]), ("TooMany", ["what", "many", "limit"]), ("TooLong", ["many"])]
def excs : List (Str × List Str) := excs0
def kits (K : PySem.W.Frag) : Bool := true && decide (PySem.W.kitOne K (.ref (He.ga K "Straight")) (.type "int") = some false) && decide (PySem.W.kitOne K (.ref (He.ga K "Straight")) (.ref (He.ga K "Straight")) = some true) && decide (PySem.W.kitOne K (.ref (He.ga K "Straight")) (.ref (He.ga K "Place")) = some false) && decide (PySem.W.kitOne K (.ref (He.ga K "Place")) (.ref (He.ga K "Place")) = some true) && decide (PySem.W.kitOne K (.ref (He.ga K "Place")) (.ref (He.ga K "Straight")) = some false) && decide (PySem.W.kitOne K (.type "int") (.ref (He.ga K "Place")) = some false) && decide (PySem.W.kitOne K (.type "int") (.ref (He.ga K "Straight")) = some false) && decide (PySem.W.kitOne K (.type "int") (.type "int") = some true) && decide (PySem.W.kitOne K (.type "int") (.type "bool") = some false)
def insB (K : PySem.W.Frag) (C : Addr) : Bool := He.eqO (PySem.W.findIn K (.ref C) "__class__") (some (some (.builtin "object.__class__"))) && (He.eqO (PySem.W.specialIn K (.builtin "object.__class__") "__get__") (some (some (.builtin "getset_descriptor.__get__"))) && (decide (PySem.W.takesIn K (.builtin "object.__class__") = some true) && decide (PySem.W.mroIn K C (.type "object") = some true)))
def faP0 : List FaK := [
  fun K => glos.all fun x => (He.Fa.glo x).ok K,
  fun K => frees.all fun x => (He.Fa.free x).ok K,
  fun K => owns.all fun x => (He.Fa.cls x).ok K && ((He.Fa.mkr x).ok K && insB K (He.ga K x))]
def faP1 : List FaK := [
  fun K => atts.all fun q => (He.Fa.noat q.1 q.2).ok K,
  fun K => mets.all fun q => (He.Fa.meth q.1 q.2).ok K]
def faP2 : List FaK := [
  fun K => oprs.all fun q => opiB K (He.ga K q.1) q.2,
  fun K => excs.all fun q => exkB K (He.ga K q.1) && (oexB K (He.ga K q.1) && (He.eqO (PySem.W.findIn K (.ref (He.ga K q.1)) "__init__") (some (some (.ref (He.ma K (He.ga K q.1) "__init__")))) && (decide (PySem.W.typeIn K (.ref (He.ma K (He.ga K q.1) "__init__")) = some (.type "function")) &&
    q.2.all fun f => He.eqO (PySem.W.findIn K (.ref (He.ga K q.1)) f) (some none)))),
  kits,
  fun K => He.eqO (PySem.W.nsIn K mainGlobals "gcd") (some (some (.builtin "math.gcd"))),
  fun K => ([("BadSize", "BadSize", true), ("TooLong", "TooLong", true), ("TooLong", "BadSize", false), ("BadName", "BadSize", false), ("BadName", "TooLong", false), ("BadName", "BadName", true), ("AtEnd", "AtEnd", true), ("AtStart", "AtEnd", false), ("AtStart", "AtStart", true), ("BadNumber", "AtEnd", false), ("BadNumber", "AtStart", false), ("BadNumber", "BadNumber", true)] : List (Str × Str × Bool)).all fun q => decide (PySem.W.exmOne K (.ref (He.ga K q.1)) (.ref (He.ga K q.2.1)) = some q.2.2),
  fun K => ([("TOP_PART", 12), ("TOP_ONE", 999), ("TOP_RANGE_PART", 3), ("TOP_DIVISOR", 3), ("TOP_STEP", 16), ("MOST_LOOPS", 6), ("MOST_STATEMENTS", 16), ("MOST_READS", 3), ("MOST_CONDITIONS", 3), ("TOP_MODULUS", 4), ("MOST_TURNS", 20000), ("MODULUS", 1000003), ("TOP_SIZE", 1000000000000000000000000000000)] : List (Str × Int)).all fun q => (match PySem.W.nsIn K mainGlobals q.1 with | some (some (.int i _)) => decide (i = q.2) | _ => false),
  fun K => (He.Fa.glo "KEPT_WORDS").ok K && He.tupB K "KEPT_WORDS" (kept.map He.Dv.str),
  fun K => (match PySem.W.nsIn K mainGlobals "LETTERS" with | some (some (.str x _)) => decide (x = lets) | _ => false),
  fun K => (["reads", "conditions"] : List Str).all fun x => (match K.lookup (kwAt x K) with | some ⟨.type c, _, .seq its _, _⟩ => decide (c = "tuple") && decide (its.size = 0) | _ => false),
  fun K => ([kwSt K, kwRu K] : List Addr).all fun a => (match K.lookup a with | some ⟨.type c, _, .seq its _, _⟩ => decide (c = "tuple") && decide (its.size = 0) | _ => false),
  fun K => (["AtEnd", "AtStart"] : List Str).all fun x => exkB K (He.ga K x) && PySem.W.excIn K (He.ga K x) He.veBase "ValueError.__new__"]
def fa : List FaK := faP0 ++ faP1 ++ faP2
abbrev R : PySem.W.OpenRow := PySem.W.OpenLaw.row PySem.Challenge.rw_loopsize_k28_whole_steps_back_and_forth
abbrev hk : PySem.W.Hook := hookR 1000 fa fn
def ob (s : PySem.W.SharedT) : He.AlD := obsRG 1000 fa fn (HandSHeadRun.getT s)
theorem ob_eq (s : PySem.W.SharedT) : ob s = hk.obs s.abs := obsRG_eq (HandSHeadRun.getT_eq s)
def names0 : List Str := ["_wall", "LoopError", "BadName", "BadNumber", "BadSize", "TooMany", "TooLong", "AtEnd"]
def names1 : List Str := ["AtStart", "is_integer", "is_integer_from", "is_size", "is_array_name", "Straight", "Place", "is_straight"]
def names2 : List Str := ["straight_like", "place_like", "value_of", "added", "AtLeast", "Rest", "Read", "Statement"]
def names3 : List Str := ["Loop", "Program", "turns_from", "arrays_in", "check_many", "check_name", "check_number", "check_sum"]
def names4 : List Str := ["check_place", "check_range_place", "Run", "Stepper", "first_value", "held_value", "value_in", "check_run"]
def names5 : List Str := ["first_cells", "works_of", "statement_of", "write_of", "run_program", "first_difference", "_law_pen", "_law_draw"]
def names6 : List Str := ["_law_pick", "_law_big", "_law_between", "_law_far", "_law_name", "_law_names", "_law_value", "_law_guard_holds"]
def names7 : List Str := ["_law_small_guard", "_law_small_statement", "_law_small_loop", "_law_small_rows", "_law_counters", "_law_works", "_law_sum", "_law_made_guard"]
def names8 : List Str := ["_law_made_statement", "_law_made_loop", "_law_made", "_law_input", "_law_result", "_law_states", "_law_deed_told", "_law_deed_due"]
def names9 : List Str := ["_law_is_at", "_law_walk_right", "_law_refused", "_law_refusals_right", "TOP_SIZE", "LETTERS", "KEPT_WORDS", "TOP_MODULUS"]
def names10 : List Str := ["TOP_PART", "TOP_ONE", "TOP_DIVISOR", "TOP_RANGE_PART", "TOP_STEP", "MOST_LOOPS", "MOST_STATEMENTS", "MOST_READS"]
def names11 : List Str := ["MOST_CONDITIONS", "MODULUS", "MOST_TURNS"]
def names : List Str := names0 ++ names1 ++ names2 ++ names3 ++ names4 ++ names5 ++ names6 ++ names7 ++ names8 ++ names9 ++ names10 ++ names11
end K28
set_option maxHeartbeats 0
namespace K28
open PySem PySem.Spec PyProof.Rows L2 Z
theorem run1 (w : World) : (HandSHeadRun.wholeF (fun p => HandSHeadRun.stepQ (HandSHeadRun.denQ HandSHeadRun.tabQ) p w) HandSHeadRun.fenceQ 60000 R.prog).map (fun x => HandSHeadRun.looksF R.prog x.1.heap x.2.abs) = some true := by
  kernel_rfl
theorem run2 (w : World) : (HandSHeadRun.wholeF (fun p => HandSHeadRun.stepQ (HandSHeadRun.denQ HandSHeadRun.tabQ) p w) HandSHeadRun.fenceQ 60000 R.prog).map (fun x => HandSHeadRun.seenQ (PySem.W.view R.prog [0, 99]) names (importedModules R.prog.main.body) (fun s => PySem.W.xlAt (PySem.W.view R.prog [0, 99]) [] s && PySem.W.recOk R.toRowW.records s) x.2.abs) = some (PySem.W.openGood (PySem.W.view R.prog [0, 99]) names) := by
  kernel_rfl
theorem run3_0 (w : World) : (HandSHeadRun.wholeF (fun p => HandSHeadRun.stepQ (HandSHeadRun.denQ HandSHeadRun.tabQ) p w) HandSHeadRun.fenceQ 60000 R.prog).map (fun x => obsRG 1000 faP0 fnP0 (HandSHeadRun.getT x.2)) = some (He.valD fnP0) := by
  kernel_rfl
theorem run3_1 (w : World) : (HandSHeadRun.wholeF (fun p => HandSHeadRun.stepQ (HandSHeadRun.denQ HandSHeadRun.tabQ) p w) HandSHeadRun.fenceQ 60000 R.prog).map (fun x => obsRG 1000 faP1 fnP1 (HandSHeadRun.getT x.2)) = some (He.valD fnP1) := by
  kernel_rfl
theorem run3_2 (w : World) : (HandSHeadRun.wholeF (fun p => HandSHeadRun.stepQ (HandSHeadRun.denQ HandSHeadRun.tabQ) p w) HandSHeadRun.fenceQ 60000 R.prog).map (fun x => obsRG 1000 faP2 fnP2 (HandSHeadRun.getT x.2)) = some (He.valD fnP2) := by
  kernel_rfl
theorem run3 (w : World) : (HandSHeadRun.wholeF (fun p => HandSHeadRun.stepQ (HandSHeadRun.denQ HandSHeadRun.tabQ) p w) HandSHeadRun.fenceQ 60000 R.prog).map (fun x => ob x.2) = some (hk.val w) := obs_cat (obs_cat (run3_0 w) (run3_1 w)) (run3_2 w)
theorem run (w : World) : HandSHeadRun.RunEqI R (PySem.W.view R.prog [0, 99]) hk ob 60000 names w := map3 (run1 w) (run2 w) (run3 w)
end K28
set_option maxHeartbeats 4000000
namespace K28
open PySem PySem.Spec PyProof.Rows L2 Z
abbrev FnP (K : PySem.W.Frag) (x : Str) (st : Stmt) (f : Addr) (fd : FuncData) : Prop := FunD K x x (defArgs st) (defBody st) (defScope st) [] [] f fd
/-- the built-in names that are still their own -/
structure Bt (mg : Str → Option Value) : Prop where
  int : mg "int" = none
  len : mg "len" = none
  list : mg "list" = none
/-- the pen, its cells at c -/
def PenC (H : Hp) (p c : Addr) (t : Nat) : Prop := ∃ (ns : List Int) (a l : Int), H p = some (.dK (penK c a l)) ∧ H c = some (.lst (ns.map V.int)) ∧ ns.length ≤ 63 ∧ 0 ≤ a ∧ a ≤ (t : Int) ∧ 0 ≤ l
def spDrawC : Sp := fun vs H Q _ => ∃ (p : Addr) (m : Int) (t : Nat) (c : Addr), vs = [.ref p, .int m] ∧ 0 < m ∧ m < 1073741824 ∧ t < 1000000000 ∧ PenC H p c t ∧ ∀ H' (d : Int), 0 ≤ d → d < m → PenC H' p c (t + 1) → Keep p H H' → Q (.int d) H'
theorem PenC.pen {H : Hp} {p c : Addr} {t : Nat} (h : PenC H p c t) : Pen H p t := by
  obtain ⟨ns, a, l, h⟩ := h
  exact ⟨c, ns, a, l, h⟩
theorem Pen.penC {H : Hp} {p : Addr} {t : Nat} (h : Pen H p t) : ∃ c, PenC H p c t := by
  obtain ⟨c, ns, a, l, h⟩ := h
  exact ⟨c, ns, a, l, h⟩
theorem PenC.has {H : Hp} {p c : Addr} {t : Nat} (h : PenC H p c t) : ∃ o, H c = some o := by
  obtain ⟨ns, a, l, _, h, _⟩ := h
  exact ⟨_, h⟩
theorem Dn.imp {P : Program} {w : World} {K : PySem.W.Frag} {mg : Str → Option Value} {base : Heap} {j : Nat} {x : Str} {ps : List Str} {sp sp' : Sp} (D : Dn P w K mg base j x ps sp) (i : ∀ vs H Q E, sp' vs H Q E → sp vs H Q E) : Dn P w K mg base j x ps sp' := by
  obtain ⟨f, fd, F, r⟩ := D
  exact ⟨f, fd, F.imp i, r⟩
section
variable {P : Program} {w : World} {K : PySem.W.Frag} {mg : Str → Option Value} {base : Heap}
theorem sc_law_pen : FnScope ["_law_script"] ["_law_script"] (defScope s_law_pen) := ⟨rfl, rfl, rfl, by decide +kernel, rfl, by decide +kernel, by decide +kernel⟩
theorem ok_pen {f : Addr} {fd : FuncData} (F : FnP K "_law_pen" s_law_pen f fd) (T : Bt mg) : FnOk P w K mg base CX0 1 f fd ["_law_script"] (spPen K) := by
  refine F.ok sc_law_pen (fun vs H Q E h => ?_) (fun cdv A outer s H vs Q E hr h => ?_)
  · obtain ⟨a, ns, rfl, _⟩ := h
    rfl
  · obtain ⟨a, ns, rfl, hS, hl, k⟩ := h
    have hu := hu_of hr
    refine ⟨_, PSs.nox (pss_one (ps_ret (pe_disp (pps_cons pe_str (pe_callTy call_list_of (by rfl) T.list (by decide +kernel) (pa_cons (pe_slice sl_list (pv 0) po_none (po_some pe_int)) pa_nil)) (pps_cons pe_str pe_int (pps_cons pe_str pe_int pps_nil))) (by rfl) (by rfl) (fun z => by cases z) (by decide)))), ?_⟩
    intro p hp
    refine ⟨_, rfl, _, rfl, a, ns.map V.int, rfl, ?_, fun q hq => ⟨q, _, rfl, .inl (SqL.of upd_same), fun l hl2 => ?_⟩⟩
    · exact Same.seq (Same.new _ (Same.refl H) hp) hS
    have npq : p ≠ q := fun z => by
      rw [← z, upd_same] at hq
      cases hq
    have npl : p ≠ l := fun z => by
      rw [← z, upd_ne npq, upd_same] at hl2
      cases hl2
    refine ⟨(by rw [upd_ne npl, upd_ne npq, upd_same]), penK l 0 0, rfl, (by show 3 ≤ 15; decide), ?_⟩
    have em : mergeK [] (penK l 0 0) = penK l 0 0 := by
      show putK (putK (putK [] (Sum.inr "cells" : Key) (.ref l)) (Sum.inr "at" : Key) (.int 0)) (Sum.inr "left" : Key) (.int 0) = penK l 0 0
      have e1 : putK ([] : List (Key × V)) (Sum.inr "cells" : Key) (.ref l) = [((Sum.inr "cells" : Key), V.ref l)] := putK_new (kvs := []) _ rfl
      have e2 : putK [((Sum.inr "cells" : Key), V.ref l)] (Sum.inr "at" : Key) (.int 0) = [((Sum.inr "cells" : Key), V.ref l), (Sum.inr "at", V.int 0)] := putK_new _ (by
        rw [valV_neg (key_ne ca_)]
        rfl)
      have e3 : putK [((Sum.inr "cells" : Key), V.ref l), (Sum.inr "at", V.int 0)] (Sum.inr "left" : Key) (.int 0) = penK l 0 0 := putK_new _ (by
        rw [valV_neg (key_ne cl_), valV_neg (key_ne al_)]
        rfl)
      rw [e1, e2, e3]
    rw [em]
    have hc : (cutV (ns.map V.int) none (some 63)) = (ns.map V.int) := by
      unfold cutV
      have e1 : HT.sIx (ns.map V.int).length 0 none = 0 := HT.sIx_none _ _
      have e2 : HT.sIx (ns.map V.int).length (ns.map V.int).length (some 63) = min 63 (ns.map V.int).length := HT.sIx_nat _ _ 63
      rw [e1, e2, List.drop_zero, List.length_map, Nat.sub_zero, Nat.min_eq_right hl, ← List.length_map (f := V.int), List.take_length]
    rw [hc]
    refine k _ p (fun b o e => ?_) hp ⟨l, ns, 0, 0, upd_same, by rw [upd_ne npl.symm, upd_same], hl, Int.le_refl 0, Int.le_refl 0, Int.le_refl 0⟩
    have nbp : b ≠ p := ne_of_none e hp
    have nbq : b ≠ q := fun z => by
      rw [← z, upd_ne nbp] at hq
      rw [hq] at e
      cases e
    have nbl : b ≠ l := fun z => by
      rw [← z, upd_ne nbq, upd_ne nbp] at hl2
      rw [hl2] at e
      cases e
    rw [upd_ne nbp, upd_ne nbl, upd_ne nbq, upd_ne nbp]
    exact e
theorem sc_law_draw : FnScope ["_law_pen_here", "_law_many", "_law_digit", "_law_spot", "_law_cell", "_law_mixed"] ["_law_pen_here", "_law_many"] (defScope s_law_draw) := ⟨rfl, rfl, rfl, by decide +kernel, rfl, by decide +kernel, by decide +kernel⟩
theorem ok_drawC {f : Addr} {fd : FuncData} (F : FnP K "_law_draw" s_law_draw f fd) (T : Bt mg) : FnOk P w K mg base CX0 1 f fd ["_law_pen_here", "_law_many"] spDrawC := by
  refine F.ok sc_law_draw (fun vs H Q E h => ?_) (fun cdv A outer s H vs Q E hr h => ?_)
  · obtain ⟨p, m, t, c, rfl, _⟩ := h
    rfl
  · obtain ⟨p, m, t, c, rfl, hm, hm2, ht, hP, k⟩ := h
    obtain ⟨ns, a, l, h1, h2, h3, h4, h5, h6⟩ := id hP
    have hu := hu_of hr
    have m0 : m ≠ 0 := by omega
    have mb : m.natAbs < 1073741824 := by omega
    have ncp : c ≠ p := ne_of h2 h1 lst_ne_dK
    have z1 : (2147483629 : Int) ≠ 0 := by decide
    have z2 : (2147483647 : Int) ≠ 0 := by decide
    have z3 : (2147483587 : Int) ≠ 0 := by decide
    have z4 : (2147483563 : Int) ≠ 0 := by decide
    refine ⟨_, PSs.nox (pss_cons (ps_if (pt_cmpR op_ge (pe_dget hu (pv 0) pe_str (fun _ _ => rfl)) (pv 1) (nomark _)) (pss_cons (ps_set (i := 2) sc_law_draw.nd rfl (Or.inl rfl) (pe_op op_modN (pe_callTy call_int1 (by rfl) T.int (by decide +kernel) (pa_cons (pe_dget hu (pv 0) pe_str (fun _ _ => rfl)) pa_nil)) (pv 1)))
      (pss_cons (ps_dput hu (pv 0) pe_str (pe_op op_fdivN (pe_dget hu (pv 0) pe_str (fun _ _ => rfl)) (pv 1)) rfl)
      (pss_one (ps_ret (pv 2))))) pss_nil)
      (pss_cons (ps_set (i := 3) sc_law_draw.nd rfl (Or.inl rfl) (pe_dget hu (pv 0) pe_str (fun _ _ => rfl)))
      (pss_cons (ps_dput hu (pv 0) pe_str (pe_op op_add (pv 3) pe_int) rfl)
      (pss_cons (ps_if (pt_cmpR (op_eqD hr.units) (pe_dget hu (pv 0) pe_str (fun _ _ => rfl)) (pe_lst pa_nil) (nomark _)) (pss_one (ps_ret (pe_op op_modN (pe_callTy call_int1 (by rfl) T.int (by decide +kernel) (pa_cons (pe_op op_add (pe_op op_mul pe_int (pv 3)) pe_int) pa_nil)) (pv 1)))) pss_nil)
      (pss_cons (ps_set (i := 4) sc_law_draw.nd rfl (Or.inl rfl) (pe_ix ix_list (pe_dget hu (pv 0) pe_str (fun _ _ => rfl)) (pe_op op_modN (pe_callTy call_int1 (by rfl) T.int (by decide +kernel) (pa_cons (pv 3) pa_nil)) (pe_callB call_len_seq (by rfl) T.len PySem.boot_len (pa_cons (pe_dget hu (pv 0) pe_str (fun _ _ => rfl)) pa_nil))) (fun _ _ => rfl)))
      (pss_cons (ps_if (PW.pt (pw_and (pt_cmpR op_lt (pv 3) (pe_callB call_len_seq (by rfl) T.len PySem.boot_len (pa_cons (pe_dget hu (pv 0) pe_str (fun _ _ => rfl)) pa_nil)) (nomark _)) (pw_and1 (pt_cmpR op_ge (pv 4) (pe_op op_pow pe_int pe_int) (nomark _))))) (pss_cons (ps_dput hu (pv 0) pe_str (pe_op op_fdivN (pe_op op_sub (pv 4) (pe_op op_pow pe_int pe_int)) (pv 1)) rfl)
      (pss_one (ps_ret (pe_op op_modN (pe_callTy call_int1 (by rfl) T.int (by decide +kernel) (pa_cons (pe_op op_sub (pv 4) (pe_op op_pow pe_int pe_int)) pa_nil)) (pv 1))))) pss_nil)
      (pss_cons (ps_set (i := 5) sc_law_draw.nd rfl (Or.inl rfl) (pe_op op_add (pe_op op_add (pe_op op_mul (pe_op op_add (pe_op op_modN (pe_callTy call_int1 (by rfl) T.int (by decide +kernel) (pa_cons (pv 4) pa_nil)) pe_int) pe_int) (pe_op op_add (pe_op op_mul pe_int (pv 3)) pe_int)) (pe_op op_mul (pe_op op_mul pe_int (pv 3)) (pv 3))) pe_int))
      (pss_cons (ps_set (i := 5) sc_law_draw.nd rfl (Or.inl rfl) (pe_op op_modN (pe_callTy call_int1 (by rfl) T.int (by decide +kernel) (pa_cons (pv 5) pa_nil)) pe_int))
      (pss_cons (ps_set (i := 5) sc_law_draw.nd rfl (Or.inl rfl) (pe_op op_modN (pe_callTy call_int1 (by rfl) T.int (by decide +kernel) (pa_cons (pe_op op_mul (pv 5) (pe_op op_add (pv 5) pe_int)) pa_nil)) pe_int))
      (pss_cons (ps_set (i := 5) sc_law_draw.nd rfl (Or.inl rfl) (pe_op op_modN (pe_callTy call_int1 (by rfl) T.int (by decide +kernel) (pa_cons (pe_op op_mul (pv 5) (pv 5)) pa_nil)) pe_int))
      (pss_one (ps_ret (pe_op op_modN (pe_callTy call_int1 (by rfl) T.int (by decide +kernel) (pa_cons (pe_op op_fdivN (pv 5) pe_int) pa_nil)) (pv 1)))))))))))))), ?_⟩
    refine ⟨_, rfl, p, _, rfl, pen_left h1, _, rfl, _, _, rfl, rfl, _, rfl, ?_⟩
    refine ite2 (fun _ => ?_) (fun _ => ?_)
    · refine ⟨_, rfl, p, _, rfl, pen_left h1, .inl ⟨_, rfl, _, rfl, _, _, rfl, rfl, m0, ?_⟩⟩
      refine ⟨_, rfl, p, _, rfl, pen_left h1, _, rfl, _, _, rfl, rfl, ⟨m0, mb⟩, _, rfl, p, _, rfl, pen_put_left _ h1, ?_⟩
      refine ⟨_, rfl, ?_⟩
      exact k _ _ (fmod_range hm).1 (fmod_range hm).2 ⟨ns, a, _, upd_same, by rw [upd_ne ncp]; exact h2, h3, h4, by omega, fdiv_nn h6 hm⟩ (Keep.upd _ (Keep.refl p H))
    · -- spot, at + 1
      refine ⟨_, rfl, p, _, rfl, pen_at h1, ?_⟩
      refine ⟨_, rfl, _, _, rfl, rfl, _, rfl, p, _, rfl, pen_put_at _ h1, ?_⟩
      have g1 : ∀ b, (upd H p (.dK (penK c (a + 1) b))) p = some (.dK (penK c (a + 1) b)) := fun b => upd_same
      have g2 : ∀ o, (upd H p o) c = some (.lst (ns.map V.int)) := fun o => by rw [upd_ne ncp]; exact h2
      have kE : ∀ o, Keep p H (upd H p o) := fun o => Keep.upd _ (Keep.refl p H)
      -- cells == []
      refine ⟨_, rfl, p, _, rfl, pen_cells (g1 _), Nat.zero_le _, fun e he => ?_⟩
      have nep : e ≠ p := fun z => by
        rw [z, upd_same] at he
        cases he
      have nec : e ≠ c := fun z => by
        rw [z, g2] at he
        cases he
      have g1' : ∀ o, (upd (upd H p (.dK (penK c (a + 1) l))) e o) p = some (.dK (penK c (a + 1) l)) := fun o => by rw [upd_ne nep.symm, upd_same]
      have g2' : ∀ o, (upd (upd H p (.dK (penK c (a + 1) l))) e o) c = some (.lst (ns.map V.int)) := fun o => by rw [upd_ne nec.symm]; exact g2 _
      have kE' : ∀ o, Keep p H (upd (upd H p (.dK (penK c (a + 1) l))) e o) := fun o => Keep.new _ (kE _) he
      have pen' : ∀ o, PenC (upd (upd H p (.dK (penK c (a + 1) l))) e o) p c (t + 1) := fun o => ⟨ns, a + 1, l, g1' _, g2' _, h3, by omega, by omega, h6⟩
      refine ⟨.list (ns.map PyData.int), .list [], .lst (SqL.of (g2' _)) (dpAll_ints ns), .lst (SqL.of upd_same) .nil, shaped_ints ns, shaped_nil, _, rfl, ?_⟩
      rw [eqv_ints_nil]
      refine ite2 (fun hc => ?_) (fun hc => ?_)
      · refine ⟨_, rfl, _, _, rfl, rfl, .inl ⟨by decide, by decide⟩, _, _, rfl, rfl, .inl ⟨_, rfl, _, rfl, _, _, rfl, rfl, m0, ?_⟩⟩
        exact k _ _ (fmod_range hm).1 (fmod_range hm).2 (pen' _) (kE' _)
      · have hpos : 0 < ns.length := by
          cases ns with
          | nil => exact absurd rfl hc
          | cons n ns => exact Nat.succ_pos _
        have hposI : (0 : Int) < ((ns.map V.int).length : Int) := by
          rw [List.length_map]
          omega
        have fr := fmod_range (x := a) hposI
        obtain ⟨j, hj⟩ : ∃ j : Nat, a.fmod ((ns.map V.int).length : Int) = (j : Int) := ⟨(a.fmod ((ns.map V.int).length : Int)).toNat, by omega⟩
        have hjl : j < ns.length := by
          have z := fr.2
          rw [hj, List.length_map] at z
          omega
        refine ⟨_, rfl, p, _, rfl, pen_cells (g1' _), _, rfl, .inl ⟨_, rfl, _, rfl, p, _, rfl, pen_cells (g1' _), c, _, rfl, .inl (SqL.of (g2' _)), _, _, rfl, rfl, by omega, ?_⟩⟩
        refine ⟨c, _, (j : Int), _, rfl, congrArg V.int hj, SqL.of (g2' _), atI_nat (get_ints hjl), ?_⟩
        generalize hz : ns[j]'hjl = z
        -- spot < len(cells) and cell >= 10 ** 18
        refine ⟨_, rfl, _, rfl, p, _, rfl, pen_cells (g1' _), c, _, rfl, .inl (SqL.of (g2' _)), _, _, rfl, rfl, _, rfl, ?_⟩
        refine ite2 (fun _ => ?_) (fun _ => iteF ?_)
        · refine ⟨_, rfl, _, _, rfl, rfl, ⟨by decide, by decide, by decide⟩, _, _, rfl, rfl, _, rfl, ?_⟩
          refine ite2 (fun hz18 => ?_) (fun _ => ?_)
          · refine ⟨_, rfl, _, _, rfl, rfl, ⟨by decide, by decide, by decide⟩, _, _, rfl, rfl, _, rfl, _, _, rfl, rfl, ⟨m0, mb⟩, _, rfl, p, _, rfl, pen_put_left _ (g1' _), ?_⟩
            refine ⟨_, rfl, _, _, rfl, rfl, ⟨by decide, by decide, by decide⟩, _, _, rfl, rfl, .inl ⟨_, rfl, _, rfl, _, _, rfl, rfl, m0, ?_⟩⟩
            have hz0 : (0 : Int) ≤ z - 10 ^ (18 : Int).toNat := Int.sub_nonneg_of_le (of_decide_eq_true hz18)
            exact k _ _ (fmod_range hm).1 (fmod_range hm).2 ⟨ns, a + 1, _, upd_same, by rw [upd_ne ncp]; exact g2' _, h3, by omega, by omega, fdiv_nn hz0 hm⟩ (Keep.upd _ (kE' _))
          · refine ⟨_, rfl, .inl ⟨_, rfl, _, _, rfl, rfl, z1, _, _, rfl, rfl, _, rfl, _, _, rfl, rfl, .inl ⟨by decide, by decide⟩, _, _, rfl, rfl, _, _, rfl, rfl, .inl (mul_okf1 (by decide) (by decide)), ?_⟩⟩
            refine ⟨_, rfl, _, _, rfl, rfl, .inl ⟨by decide, by decide⟩, _, rfl, _, _, rfl, rfl, .inr ⟨by omega, by omega⟩, _, _, rfl, rfl, _, _, rfl, rfl, ?_⟩
            refine ⟨_, rfl, .inl ⟨_, rfl, _, _, rfl, rfl, z2, ?_⟩⟩
            refine ⟨_, rfl, _, rfl, _, _, rfl, rfl, _, _, rfl, rfl, .inl (mul_okf (by decide) (by decide)), .inl ⟨_, rfl, _, _, rfl, rfl, z3, ?_⟩⟩
            refine ⟨_, rfl, _, rfl, _, _, rfl, rfl, .inl (mul_okf (by decide) (by decide)), .inl ⟨_, rfl, _, _, rfl, rfl, z4, ?_⟩⟩
            refine ⟨_, rfl, _, _, rfl, rfl, ⟨by decide, by decide⟩, .inl ⟨_, rfl, _, rfl, _, _, rfl, rfl, m0, ?_⟩⟩
            exact k _ _ (fmod_range hm).1 (fmod_range hm).2 (pen' _) (kE' _)
        · refine ⟨_, rfl, .inl ⟨_, rfl, _, _, rfl, rfl, z1, _, _, rfl, rfl, _, rfl, _, _, rfl, rfl, .inl ⟨by decide, by decide⟩, _, _, rfl, rfl, _, _, rfl, rfl, .inl (mul_okf1 (by decide) (by decide)), ?_⟩⟩
          refine ⟨_, rfl, _, _, rfl, rfl, .inl ⟨by decide, by decide⟩, _, rfl, _, _, rfl, rfl, .inr ⟨by omega, by omega⟩, _, _, rfl, rfl, _, _, rfl, rfl, ?_⟩
          refine ⟨_, rfl, .inl ⟨_, rfl, _, _, rfl, rfl, z2, ?_⟩⟩
          refine ⟨_, rfl, _, rfl, _, _, rfl, rfl, _, _, rfl, rfl, .inl (mul_okf (by decide) (by decide)), .inl ⟨_, rfl, _, _, rfl, rfl, z3, ?_⟩⟩
          refine ⟨_, rfl, _, rfl, _, _, rfl, rfl, .inl (mul_okf (by decide) (by decide)), .inl ⟨_, rfl, _, _, rfl, rfl, z4, ?_⟩⟩
          refine ⟨_, rfl, _, _, rfl, rfl, ⟨by decide, by decide⟩, .inl ⟨_, rfl, _, rfl, _, _, rfl, rfl, m0, ?_⟩⟩
          exact k _ _ (fmod_range hm).1 (fmod_range hm).2 (pen' _) (kE' _)
end
end K28
set_option maxHeartbeats 4000000
namespace K28
open PySem PySem.Spec PyProof.Rows L2 Z
abbrev FnM (K : PySem.W.Frag) (C m q : Str) (st : Stmt) (fd : FuncData) : Prop := FunD K m q (defArgs st) (defBody st) (defScope st) [] [] (He.ma K (He.ga K C) m) fd
section
variable {P : Program} {w : World} {K : PySem.W.Frag} {mg : Str → Option Value} {base : Heap}
/-- what may be called as Straight(a, b, c) -/
def MkS (P : Program) (w : World) (K : PySem.W.Frag) (mg : Str → Option Value) (base : Heap) : Prop := ∃ fd, FnOk P w K mg base CX0 1 (He.ma K (CS K) "__init__") fd ["self", "i", "n", "one"] (spSI K) ∧ Binds K fd ["self", "i", "n", "one"] []
theorem scStraight__init__ : FnScope ["self", "i", "n", "one"] ["self", "i", "n", "one"] (defScope iStraight__init__) := ⟨rfl, rfl, rfl, by decide +kernel, rfl, by decide +kernel, by decide +kernel⟩
theorem mk_S {fd : FuncData} (T : StTx K mg) (F : FnM K "Straight" "__init__" "Straight.__init__" iStraight__init__ fd) : MkS P w K mg base := by
  refine ⟨fd, ?_, F.bindsN fun _ _ _ _ _ _ us hl => match us, hl with | [_, _, _, _], _ => rfl⟩
  refine F.ok scStraight__init__ (fun vs H Q E h => ?_) (fun cdv A outer s H vs Q E hr h => ?_)
  · obtain ⟨p, dx, a, b, c, rfl, _⟩ := h
    rfl
  · obtain ⟨p, dx, a, b, c, rfl, hp, k⟩ := h
    refine ⟨_, PSs.nox (pss_cons (ps_fld (pv 0) (pv 1) rfl)
      (pss_cons (ps_fld (pv 0) (pv 2) rfl)
      (pss_one (ps_fld (pv 0) (pv 3) rfl)))), ?_⟩
    refine ⟨_, rfl, _, rfl, p, _, dx, [], rfl, hp, T.clS, T.nI, (by show 0 < 1000; decide), ?_⟩
    refine ⟨_, rfl, _, rfl, p, _, dx, _, rfl, upd_same, T.clS, T.nN, (by show 1 < 1000; decide), ?_⟩
    refine ⟨_, rfl, _, rfl, p, _, dx, _, rfl, upd_same, T.clS, T.nO, len2 _ _ _ _, ?_⟩
    exact k _ upd_same (fun b o nb e => by rw [upd_ne nb, upd_ne nb, upd_ne nb]; exact e)
theorem pe_S {X : Cx} {e : Expr} {es : List Expr} {t : TA} {p pos : Pos} {k : Nat} (T : StTx X.K X.mg) (M : MkS X.prog X.w X.K X.mg X.base) (hr : Room k X.A) (ha : PA X (e :: es) t) (hk : 2 ≤ k := by decide) (hg : Gl X "Straight" := by rfl)
    (he : starEach (e :: es) X.env = (false, eval e X.env) :: starEach es X.env := by rfl) (hpl : (backTo pos (starEach es X.env)).any (·.1) = false := by rfl) :
    PE X (.Call (.Name "Straight" p) (e :: es) [] pos) (fun σ H Q => t σ H fun vs H1 => ∃ a b c, vs = [.int a, .int b, .int c] ∧ NewS X.K H1 a b c Q) := by
  obtain ⟨fd, F, hb⟩ := M
  refine ⟨fun pins s σ H Q I h => ?_⟩
  refine wpAny_Call_Name_kw (ld_glob I hg T.gS ?_ (by decide))
  refine PySem.W.callWith_K (h₀ := X.base) I.ok.mod.kin T.mkS.kp (thn (ha.run pos pins s σ H _ I h) fun us s1 ⟨vs, H1, I1, r, a, b, c, ev, q⟩ => ⟨I1.kIn, ?_⟩) he hpl
  subst ev
  exact run_make T.mkS F (hr.mono hk) hb .nil pass0 I1 r fun x dx nx nd ne => ⟨x, dx, a, b, c, rfl, upd_same, fun H' hx kp => ⟨rfl, q x H' (Same.made (Same.refl H1) nx nd kp) nx ⟨dx, hx⟩⟩⟩
theorem sc_is_integer : FnScope ["value"] ["value"] (defScope s_is_integer) := ⟨rfl, rfl, rfl, by decide +kernel, rfl, by decide +kernel, by decide +kernel⟩
theorem ok_isInt {f : Addr} {fd : FuncData} (F : FnP K "is_integer" s_is_integer f fd) (T : StTx K mg) : FnOk P w K mg base CX0 1 f fd ["value"] (spIsInt K) := by
  refine F.ok sc_is_integer (fun vs H Q E h => ?_) (fun cdv A outer s H vs Q E hr h => ?_)
  · obtain ⟨v, rfl, _⟩ := h
    rfl
  · obtain ⟨v, rfl, h⟩ := h
    refine ⟨_, PSs.nox (pss_one (ps_ret (pe_and (pe_callB call_isi (by rfl) T.isi (by decide +kernel) (pa_cons (pv 0) (pa_cons (pe_bltn (v := .ty "int") (by rfl) T.int (by decide +kernel) rfl) pa_nil))) (pe_one (pe_not (pe_callB call_isi (by rfl) T.isi (by decide +kernel) (pa_cons (pv 0) (pa_cons (pe_bltn (v := .ty "bool") (by rfl) T.bool (by decide +kernel) rfl) pa_nil)))))))), ?_⟩
    rcases h with ⟨i, rfl, q⟩ | ⟨p, a, b, c, rfl, hp, q⟩
    · refine ⟨_, rfl, _, _, _, _, _, rfl, .ty _, .base (.int i), kii, _, rfl, iteT ?_⟩
      exact ⟨_, rfl, _, _, _, _, _, rfl, .ty _, .base (.int i), kib, _, rfl, q⟩
    · exact ⟨_, rfl, _, _, _, _, _, rfl, .ty _, .base (T.ty hp), T.kSi, _, rfl, iteF q⟩
theorem sc_straight_like : FnScope ["value"] ["value"] (defScope s_straight_like) := ⟨rfl, rfl, rfl, by decide +kernel, rfl, by decide +kernel, by decide +kernel⟩
theorem ok_like {f : Addr} {fd : FuncData} (F : FnP K "straight_like" s_straight_like f fd) (T : StTx K mg) (M : MkS P w K mg base) : FnOk P w K mg base CX0 3 f fd ["value"] (spLike K) := by
  refine F.ok sc_straight_like (fun vs H Q E h => ?_) (fun cdv A outer s H vs Q E hr h => ?_)
  · obtain ⟨v, _, _, _, rfl, _⟩ := h
    rfl
  · obtain ⟨v, a, b, c, rfl, h, q⟩ := h
    refine ⟨_, PSs.nox (pss_one (ps_ret (pe_ifExp (pt_val (pe_callB call_isi (by rfl) T.isi (by decide +kernel) (pa_cons (pv 0) (pa_cons (pe_glob (v := .ref (CS K)) rfl T.gS rfl) pa_nil)))) (pv 0) (pe_S T M hr (pa_cons pe_int (pa_cons pe_int (pa_cons (pv 0) pa_nil))))))), ?_⟩
    rcases h with ⟨p, rfl, hp⟩ | ⟨rfl, rfl, rfl⟩
    · refine ⟨_, rfl, _, _, _, _, _, rfl, .own _, .base (T.ty hp), T.kSS, _, rfl, iteT ?_⟩
      exact ⟨_, rfl, q p H (Same.refl H) hp⟩
    · refine ⟨_, rfl, _, _, _, _, _, rfl, .own _, .base (.int c), T.kiS, _, rfl, iteF ?_⟩
      exact ⟨_, rfl, 0, 0, c, rfl, fun p H' s _ hp => q p H' s hp⟩
theorem sc_value_of : FnScope ["straight", "i", "n"] ["straight", "i", "n"] (defScope s_value_of) := ⟨rfl, rfl, rfl, by decide +kernel, rfl, by decide +kernel, by decide +kernel⟩
theorem ok_val {f : Addr} {fd : FuncData} (F : FnP K "value_of" s_value_of f fd) (T : StTx K mg) : FnOk P w K mg base CX0 1 f fd ["straight", "i", "n"] (spVal K) := by
  refine F.ok sc_value_of (fun vs H Q E h => ?_) (fun cdv A outer s H vs Q E hr h => ?_)
  · obtain ⟨p, a, b, c, i, n, rfl, _⟩ := h
    rfl
  · obtain ⟨p, a, b, c, i, n, rfl, ⟨dx, hp⟩, sa, sb, q⟩ := h
    refine ⟨_, PSs.nox (pss_one (ps_ret (pe_op op_add (pe_op op_add (pe_op op_mul (pe_fld (pv 0) rfl) (pv 1)) (pe_op op_mul (pe_fld (pv 0) rfl) (pv 2))) (pe_fld (pv 0) rfl)))), ?_⟩
    refine ⟨_, rfl, p, _, dx, _, _, rfl, hp, T.clS, T.nI, sf_i _ _ _, _, rfl, _, _, rfl, rfl, .inl sa, ?_⟩
    refine ⟨_, rfl, p, _, dx, _, _, rfl, hp, T.clS, T.nN, sf_n _ _ _, _, rfl, _, _, rfl, rfl, .inl sb, _, _, rfl, rfl, ?_⟩
    exact ⟨_, rfl, p, _, dx, _, _, rfl, hp, T.clS, T.nO, sf_one _ _ _, _, _, rfl, rfl, q⟩
end
end K28
set_option maxHeartbeats 4000000
namespace K28
open PySem PySem.Spec PyProof.Rows L2 Z
section
variable {P : Program} {w : World} {K : PySem.W.Frag} {mg : Str → Option Value} {base : Heap}
theorem sc_is_integer_from : FnScope ["value", "low", "high"] ["value", "low", "high"] (defScope s_is_integer_from) := ⟨rfl, rfl, rfl, by decide +kernel, rfl, by decide +kernel, by decide +kernel⟩
theorem ok_intFrom {f : Addr} {fd : FuncData} (F : FnP K "is_integer_from" s_is_integer_from f fd) (dIsInt : Dn P w K mg base 1 "is_integer" ["value"] (spIsInt K)) : FnOk P w K mg base CX0 2 f fd ["value", "low", "high"] spIntFrom := by
  refine F.ok sc_is_integer_from (fun vs H Q E h => ?_) (fun cdv A outer s H vs Q E hr h => ?_)
  · obtain ⟨v, lo, hi, rfl, _⟩ := h
    rfl
  · obtain ⟨v, lo, hi, rfl, k⟩ := h
    refine ⟨_, PSs.nox (pss_one (ps_ret (pe_and (pe_dn dIsInt hr (pa_cons (pv 0) pa_nil)) (pe_one (pe_chain op_le op_le (pv 1) (pv 0) (pv 2)))))), ?_⟩
    refine ⟨_, rfl, _, rfl, .inl ⟨v, rfl, _, rfl, iteT ?_⟩⟩
    refine ⟨_, rfl, _, rfl, _, _, rfl, rfl, _, rfl, ite2 (fun h => ?_) (fun h => ?_)⟩
    · have h1 : lo ≤ v := of_decide_eq_true h
      refine ⟨_, rfl, _, _, rfl, rfl, ?_⟩
      rw [show decide (lo ≤ v ∧ v ≤ hi) = decide (v ≤ hi) from decide_eq_decide.mpr ⟨fun z => z.2, fun z => ⟨h1, z⟩⟩] at k
      exact k
    · have h1 : ¬ lo ≤ v := fun z => h (decide_eq_true z)
      rw [decide_eq_false (fun z => h1 z.1)] at k
      exact k
theorem scBadNumber__init__ : FnScope ["self", "what", "number"] ["self", "what", "number"] (defScope iBadNumber__init__) := ⟨rfl, rfl, rfl, by decide +kernel, rfl, by decide +kernel, by decide +kernel⟩
theorem mxBadNumber {fd : FuncData} (T : EC K mg "BadNumber" ["what", "number"]) (F : FnM K "BadNumber" "__init__" "BadNumber.__init__" iBadNumber__init__ fd) : Mx P w K mg base "BadNumber" ["self", "what", "number"] ["what", "number"] := by
  refine ⟨T, fd, ?_, F.bindsN fun _ _ _ _ _ _ us hl => match us, hl with | [_, _, _], _ => rfl⟩
  refine F.ok scBadNumber__init__ (fun vs H Q E h => ?_) (fun cdv A outer s H vs Q E hr h => ⟨_, PSs.nox (pss_cons (ps_ost (pv 0) (pv 1)) (pss_one (ps_ost (pv 0) (pv 2)))), rd_err2 T h⟩)
  obtain ⟨a, ws, rfl, e, _⟩ := h
  rw [List.length_cons, e]
  rfl
/-- what may be called as Place(v, d) -/
def MkP (P : Program) (w : World) (K : PySem.W.Frag) (mg : Str → Option Value) (base : Heap) : Prop := ∃ fd, FnOk P w K mg base (L2.CX P w) 4 (He.ma K (CP K) "__init__") fd ["self", "straight", "divisor"] (spPG K) ∧ Binds K fd ["self", "straight", "divisor"] []
theorem scPlace__init__ : FnScope ["self", "straight", "divisor", "told", "common"] ["self", "straight", "divisor"] (defScope iPlace__init__) := ⟨rfl, rfl, rfl, by decide +kernel, rfl, by decide +kernel, by decide +kernel⟩
theorem mk_P {fd : FuncData} (T : PlTx K mg) (M : MkS P w K mg base) (MB : Mx P w K mg base "BadNumber" ["self", "what", "number"] ["what", "number"]) (dLike : Dn P w K mg base 3 "straight_like" ["value"] (spLike K))
    (F : FnM K "Place" "__init__" "Place.__init__" iPlace__init__ fd) : MkP P w K mg base := by
  refine ⟨fd, ?_, F.bindsN fun _ _ _ _ _ _ us hl => match us, hl with | [_, _, _], _ => rfl⟩
  refine F.ok scPlace__init__ (fun vs H Q E h => ?_) (fun cdv A outer s H vs Q E hr h => ?_)
  · obtain ⟨p, dx, v, a, b, c, d, rfl, _⟩ := h
    rfl
  · obtain ⟨p, dx, v, a, b, c, d, rfl, hp, hv, hbad, hok⟩ := h
    refine ⟨_, (pss_cons (ps_if (pt_cmpR op_lt (pv 2) pe_int (nomark _)) (pss_one (ps_raise rfl (takes_of rfl rfl rfl rfl) (pmk_err MB hr (pa_cons pe_str (pa_cons (pv 2) pa_nil))))) pss_nil)
      (pss_cons (ps_set (i := 3) scPlace__init__.nd rfl (Or.inl rfl) (pe_dn dLike hr (pa_cons (pv 1) pa_nil)))
      (pss_cons (ps_set (i := 4) scPlace__init__.nd rfl (Or.inl rfl) (pe_callBfun cr_gcd (by rfl) T.gcd (pa_cons (pe_callBfun cr_gcd (by rfl) T.gcd (pa_cons (pe_fld (pv 3) rfl) (pa_cons (pe_fld (pv 3) rfl) pa_nil))) (pa_cons (pv 2) pa_nil))))
      (pss_cons (ps_fld (pv 0) (pe_S T.toStTx M hr (pa_cons (pe_op op_fdivN (pe_fld (pv 3) rfl) (pv 4)) (pa_cons (pe_op op_fdivN (pe_fld (pv 3) rfl) (pv 4)) (pa_cons (pe_op op_fdivN (pe_fld (pv 3) rfl) (pv 4)) pa_nil)))) rfl)
      (pss_one (ps_fld (pv 0) (pe_op op_fdivN (pv 2) (pv 4)) rfl)))))), ?_⟩
    refine ⟨_, rfl, _, _, rfl, rfl, _, rfl, ite2 (fun hd => ?_) (fun hd => ?_)⟩
    · exact ⟨_, rfl, err_go (K := K) (x := "BadNumber") (fs := ["what", "number"]) (by show 2 ≤ 1000; decide) rfl fun e H' s he => hbad (of_decide_eq_true hd) e H' s he⟩
    · have d1 : 1 ≤ d := by
        have z : ¬ d < 1 := fun z => hd (decide_eq_true z)
        omega
      obtain ⟨d2, k⟩ := hok d1
      have hg0 : 0 < gg a b d := Nat.gcd_pos_of_pos_right _ (by omega)
      have hgd : gg a b d ≤ d.natAbs := Nat.le_of_dvd (by omega) (Nat.gcd_dvd_right _ _)
      have hgc : CDivN a (gg a b d : Int) ∧ CDivN b (gg a b d : Int) ∧ CDivN c (gg a b d : Int) ∧ CDivN d (gg a b d : Int) := by
        unfold CDivN
        have e : ((gg a b d : Nat) : Int) ≠ 0 ∧ ((gg a b d : Nat) : Int).natAbs < 1073741824 := ⟨by omega, by omega⟩
        exact ⟨e, e, e, e⟩
      obtain ⟨ga_, gb_, gc_, gd_⟩ := hgc
      refine ⟨_, rfl, v, a, b, c, rfl, hv, fun q H1 s1 hq => ?_⟩
      obtain ⟨dq, hq⟩ := hq
      refine ⟨_, rfl, q, _, dq, _, _, rfl, hq, T.clS, T.nI, sf_i _ _ _, _, rfl, q, _, dq, _, _, rfl, hq, T.clS, T.nN, sf_n _ _ _, _, _, rfl, _, rfl, _, _, rfl, ?_⟩
      refine ⟨_, rfl, q, _, dq, _, _, rfl, hq, T.clS, T.nI, sf_i _ _ _, _, rfl, _, _, rfl, rfl, ga_, ?_⟩
      refine ⟨_, rfl, q, _, dq, _, _, rfl, hq, T.clS, T.nN, sf_n _ _ _, _, rfl, _, _, rfl, rfl, gb_, ?_⟩
      refine ⟨_, rfl, q, _, dq, _, _, rfl, hq, T.clS, T.nO, sf_one _ _ _, _, rfl, _, _, rfl, rfl, gc_, ?_⟩
      refine ⟨_, _, _, rfl, fun r H2 s2 hr1 hr2 => ?_⟩
      have hp2 : H2 p = some (.ins (CP K) dx []) := s2 _ _ (s1 _ _ hp)
      have npr : r ≠ p := fun z => by
        rw [z, s1 _ _ hp] at hr1
        cases hr1
      refine ⟨_, rfl, p, _, dx, _, rfl, hp2, T.clP, T.nS, (by show 0 < 1000; decide), ?_⟩
      refine ⟨_, rfl, _, rfl, _, _, rfl, rfl, gd_, _, rfl, p, _, dx, _, rfl, upd_same, T.clP, T.nD, len1 _ _, ?_⟩
      obtain ⟨dr, hr3⟩ := hr2
      refine k r _ upd_same ⟨dr, by rw [upd_ne npr, upd_ne npr]; exact hr3⟩ (fun b o nb e => ?_)
      rw [upd_ne nb, upd_ne nb]
      exact s2 _ _ (s1 _ _ e)
theorem pe_P {X : Cx} {e : Expr} {es : List Expr} {t : TA} {p pos : Pos} {k : Nat} {E : L2.St → XK} (T : PlTx X.K X.mg) (M : MkP X.prog X.w X.K X.mg X.base) (hr : Room k X.A) (hx : ∀ σ, PassesAt (L2.CX X.prog X.w) X σ (E σ)) (ha : PA X (e :: es) t) (hk : 5 ≤ k := by decide) (hg : Gl X "Place" := by rfl)
    (he : starEach (e :: es) X.env = (false, eval e X.env) :: starEach es X.env := by rfl) (hpl : (backTo pos (starEach es X.env)).any (·.1) = false := by rfl) :
    PE X (.Call (.Name "Place" p) (e :: es) [] pos) (fun σ H Q => t σ H fun vs H1 => ∃ v d, vs = [v, .int d] ∧ rPlG X.K v d H1 Q (E σ)) := by
  obtain ⟨fd, F, hb⟩ := M
  refine ⟨fun pins s σ H Q I h => ?_⟩
  refine wpAny_Call_Name_kw (ld_glob I hg T.gP ?_ (by decide))
  refine PySem.W.callWith_K (h₀ := X.base) I.ok.mod.kin T.mkP.kp (thn (ha.run pos pins s σ H _ I h) fun us s1 ⟨vs, H1, I1, r, v, d, ev, a, b, c, hv, hbad, hok⟩ => ⟨I1.kIn, ?_⟩) he hpl
  subst ev
  refine make_at T.mkP F (hr.mono hk) hb (hx σ) I1 r fun x dx nx nd ne => ?_
  have s0 : Same H1 (upd (upd H1 dx (.own x)) x (.ins (CP X.K) dx [])) := Same.new _ (Same.new _ (Same.refl H1) nd) (by rw [upd_ne (Ne.symm ne)]; exact nx)
  refine ⟨x, dx, v, a, b, c, d, rfl, upd_same, hv.same s0, fun hd e H' s he => hbad hd e H' (s0.trans s) he, fun h1 => ⟨(hok h1).1, fun q H' hp hq kp => ⟨rfl, (hok h1).2 x H' (Same.made (Same.refl H1) nx nd kp) ⟨dx, q, hp, hq⟩⟩⟩⟩
theorem scPlace__call__ : FnScope ["self", "i", "n"] ["self", "i", "n"] (defScope iPlace__call__) := ⟨rfl, rfl, rfl, by decide +kernel, rfl, by decide +kernel, by decide +kernel⟩
theorem ok_PCall {fd : FuncData} (F : FnM K "Place" "__call__" "Place.__call__" iPlace__call__ fd) (T : PlTx K mg) (dVal : Dn P w K mg base 1 "value_of" ["straight", "i", "n"] (spVal K)) : FnOk P w K mg base CX0 2 (He.ma K (CP K) "__call__") fd ["self", "i", "n"] (spPCall K) := by
  refine F.ok scPlace__call__ (fun vs H Q E h => ?_) (fun cdv A outer s H vs Q E hr h => ?_)
  · obtain ⟨p, a, b, c, d, i, n, rfl, _⟩ := h
    rfl
  · obtain ⟨p, a, b, c, d, i, n, rfl, ⟨dx, q, hp, hq⟩, sa, sb, d0, d1, k⟩ := h
    refine ⟨_, PSs.nox (pss_one (ps_ret (pe_op op_fdivN (pe_dn dVal hr (pa_cons (pe_fld (pv 0) rfl) (pa_cons (pv 1) (pa_cons (pv 2) pa_nil)))) (pe_fld (pv 0) rfl)))), ?_⟩
    refine ⟨_, rfl, p, _, dx, _, _, rfl, hp, T.clP, T.nS, pf_s _ _, _, rfl, _, rfl, q, a, b, c, i, n, rfl, hq, sa, sb, ?_⟩
    exact ⟨_, rfl, p, _, dx, _, _, rfl, hp, T.clP, T.nD, pf_d _ _, _, _, rfl, rfl, ⟨by omega, by omega⟩, k⟩
theorem pe_SK {X : Cx} {K : PySem.W.Frag} {e : Expr} {es : List Expr} {t : TA} {p pos : Pos} {k : Nat} (hK : X.K = K) (T : StTx K X.mg) (M : MkS X.prog X.w K X.mg X.base) (hr : Room k X.A) (ha : PA X (e :: es) t) (hk : 2 ≤ k := by decide) (hg : Gl X "Straight" := by rfl)
    (he : starEach (e :: es) X.env = (false, eval e X.env) :: starEach es X.env := by rfl) (hpl : (backTo pos (starEach es X.env)).any (·.1) = false := by rfl) :
    PE X (.Call (.Name "Straight" p) (e :: es) [] pos) (fun σ H Q => t σ H fun vs H1 => ∃ a b c, vs = [.int a, .int b, .int c] ∧ NewS K H1 a b c Q) := by
  subst hK
  exact pe_S T M hr ha hk hg he hpl
end
end K28
set_option maxHeartbeats 4000000
namespace K28
open PySem PySem.Spec PyProof.Rows L2 Z
structure AtTx (K : PySem.W.Frag) (mg : Str → Option Value) : Prop extends StTx K mg where
  gA : mg "AtLeast" = some (.ref (CA K))
  clA : Cls K (CA K)
  mkA : Mk K (CA K) (He.ma K (CA K) "__init__")
  nAS : NoAttr K (CA K) "straight"
  gcd : mg "gcd" = some (.builtin "math.gcd")
  gR : mg "Rest" = some (.ref (CR K))
  clQ : Cls K (CR K)
  mkR : Mk K (CR K) (He.ma K (CR K) "__init__")
  nRS : NoAttr K (CR K) "straight"
  nRM : NoAttr K (CR K) "modulus"
  nRR : NoAttr K (CR K) "rest"
  topM : ∃ t, mg "TOP_MODULUS" = some (.int 4 t)
section
variable {P : Program} {w : World} {K : PySem.W.Frag} {mg : Str → Option Value} {base : Heap}
/-- what may be called as AtLeast(v) -/
def MkA (P : Program) (w : World) (K : PySem.W.Frag) (mg : Str → Option Value) (base : Heap) : Prop := ∃ fd, FnOk P w K mg base CX0 4 (He.ma K (CA K) "__init__") fd ["self", "straight"] (spAI K) ∧ Binds K fd ["self", "straight"] []
theorem scAtLeast__init__ : FnScope ["self", "straight", "told", "common"] ["self", "straight"] (defScope iAtLeast__init__) := ⟨rfl, rfl, rfl, by decide +kernel, rfl, by decide +kernel, by decide +kernel⟩
theorem mk_A {fd : FuncData} (T : AtTx K mg) (M : MkS P w K mg base) (dLike : Dn P w K mg base 3 "straight_like" ["value"] (spLike K)) (F : FnM K "AtLeast" "__init__" "AtLeast.__init__" iAtLeast__init__ fd) : MkA P w K mg base := by
  refine ⟨fd, ?_, F.bindsN fun _ _ _ _ _ _ us hl => match us, hl with | [_, _], _ => rfl⟩
  refine F.ok scAtLeast__init__ (fun vs H Q E h => ?_) (fun cdv A outer s H vs Q E hr h => ?_)
  · obtain ⟨p, dx, v, a, b, c, rfl, _⟩ := h
    rfl
  · obtain ⟨p, dx, v, a, b, c, rfl, hp, hv, hg, k⟩ := h
    refine ⟨_, PSs.nox (pss_cons (ps_set (i := 2) scAtLeast__init__.nd rfl (Or.inl rfl) (pe_dn dLike hr (pa_cons (pv 1) pa_nil)))
      (pss_cons (ps_set (i := 3) scAtLeast__init__.nd rfl (Or.inl rfl) (pe_callBfun cr_gcd (by rfl) T.gcd (pa_cons (pe_fld (pv 2) rfl) (pa_cons (pe_fld (pv 2) rfl) pa_nil))))
      (pss_one (ps_if (pt_cmpR op_eq (pv 3) pe_int (nomark _)) (pss_one (ps_fld (pv 0) (pe_S T.toStTx M hr (pa_cons pe_int (pa_cons pe_int (pa_cons (pe_ifExp (pt_cmpR op_ge (pe_fld (pv 2) rfl) pe_int (nomark _)) pe_int (pe_un un_neg pe_int)) pa_nil)))) rfl)) (pss_one (ps_fld (pv 0) (pe_S T.toStTx M hr (pa_cons (pe_op op_fdivN (pe_fld (pv 2) rfl) (pv 3)) (pa_cons (pe_op op_fdivN (pe_fld (pv 2) rfl) (pv 3)) (pa_cons (pe_op op_fdivN (pe_fld (pv 2) rfl) (pv 3)) pa_nil)))) rfl)))))), ?_⟩
    refine ⟨_, rfl, v, a, b, c, rfl, hv, fun q H1 s1 hq => ?_⟩
    obtain ⟨dq, hq⟩ := hq
    refine ⟨_, rfl, q, _, dq, _, _, rfl, hq, T.clS, T.nI, sf_i _ _ _, _, rfl, q, _, dq, _, _, rfl, hq, T.clS, T.nN, sf_n _ _ _, _, _, rfl, ?_⟩
    have go : ∀ (x y z : Int), x = a.fdiv (g2 a b) → y = b.fdiv (g2 a b) → z = lf3 a b c → ∀ (r : Addr) (H2 : Hp), Same H1 H2 → H1 r = none → StrAt K H2 r x y z → Q .non (upd H2 p (.ins (CA K) dx (af r))) := by
      intro x y z ex ey ez r H2 s2 hr1 hr2
      subst ex ey ez
      have hp2 : H2 p = some (.ins (CA K) dx []) := s2 _ _ (s1 _ _ hp)
      have npr : r ≠ p := fun z => by
        rw [z, s1 _ _ hp] at hr1
        cases hr1
      obtain ⟨dr, hr3⟩ := hr2
      refine k r _ upd_same ⟨dr, by rw [upd_ne npr]; exact hr3⟩ (fun b o nb e => ?_)
      rw [upd_ne nb]
      exact s2 _ _ (s1 _ _ e)
    refine ⟨_, rfl, rfl, _, rfl, ite2 (fun h0 => ?_) (fun h0 => ?_)⟩
    · have z0 : g2 a b = 0 := by
        have z : ((g2 a b : Nat) : Int) = 0 := V.int.inj (of_decide_eq_true h0)
        omega
      obtain ⟨rfl, rfl⟩ := g2_zero z0
      refine ⟨_, rfl, q, _, dq, _, _, rfl, hq, T.clS, T.nO, sf_one _ _ _, _, _, rfl, rfl, ?_⟩
      refine ⟨_, rfl, ite2 (fun hc => ?_) (fun hc => ?_)⟩
      · have hc1 : 0 ≤ c := of_decide_eq_true hc
        refine ⟨0, 0, 0, rfl, fun r H2 s2 hr1 hr2 => ?_⟩
        refine ⟨_, rfl, p, _, dx, _, rfl, s2 _ _ (s1 _ _ hp), T.clA, T.nAS, (by show 0 < 1000; decide), ?_⟩
        exact go 0 0 0 (by rw [Int.zero_fdiv]) (by rw [Int.zero_fdiv]) (by unfold lf3; rw [if_pos z0, if_pos hc1]) r H2 s2 hr1 hr2
      · have hc1 : ¬ 0 ≤ c := fun z => hc (decide_eq_true z)
        refine ⟨_, rfl, 0, 0, -1, rfl, fun r H2 s2 hr1 hr2 => ?_⟩
        refine ⟨_, rfl, p, _, dx, _, rfl, s2 _ _ (s1 _ _ hp), T.clA, T.nAS, (by show 0 < 1000; decide), ?_⟩
        exact go 0 0 (-1) (by rw [Int.zero_fdiv]) (by rw [Int.zero_fdiv]) (by unfold lf3; rw [if_pos z0, if_neg hc1]) r H2 s2 hr1 hr2
    · have z0 : ¬ g2 a b = 0 := fun z => h0 (decide_eq_true (by
        show V.int ((g2 a b : Nat) : Int) = V.int 0
        rw [z]
        rfl))
      have hgc : ((g2 a b : Nat) : Int) ≠ 0 ∧ ((g2 a b : Nat) : Int).natAbs < 1073741824 := ⟨by omega, by omega⟩
      refine ⟨_, rfl, q, _, dq, _, _, rfl, hq, T.clS, T.nI, sf_i _ _ _, _, rfl, _, _, rfl, rfl, hgc, ?_⟩
      refine ⟨_, rfl, q, _, dq, _, _, rfl, hq, T.clS, T.nN, sf_n _ _ _, _, rfl, _, _, rfl, rfl, hgc, ?_⟩
      refine ⟨_, rfl, q, _, dq, _, _, rfl, hq, T.clS, T.nO, sf_one _ _ _, _, rfl, _, _, rfl, rfl, hgc, ?_⟩
      refine ⟨_, _, _, rfl, fun r H2 s2 hr1 hr2 => ?_⟩
      refine ⟨_, rfl, p, _, dx, _, rfl, s2 _ _ (s1 _ _ hp), T.clA, T.nAS, (by show 0 < 1000; decide), ?_⟩
      exact go _ _ _ rfl rfl (by unfold lf3; rw [if_neg z0]; rfl) r H2 s2 hr1 hr2
theorem pe_A {X : Cx} {e : Expr} {es : List Expr} {t : TA} {p pos : Pos} {k : Nat} (T : AtTx X.K X.mg) (M : MkA X.prog X.w X.K X.mg X.base) (hr : Room k X.A) (ha : PA X (e :: es) t) (hk : 5 ≤ k := by decide) (hg : Gl X "AtLeast" := by rfl)
    (he : starEach (e :: es) X.env = (false, eval e X.env) :: starEach es X.env := by rfl) (hpl : (backTo pos (starEach es X.env)).any (·.1) = false := by rfl) :
    PE X (.Call (.Name "AtLeast" p) (e :: es) [] pos) (fun σ H Q => t σ H fun vs H1 => ∃ v a b c, vs = [v] ∧ SumV X.K H1 v a b c ∧ g2 a b < 1073741824 ∧ NewA X.K H1 (a.fdiv (g2 a b)) (b.fdiv (g2 a b)) (lf3 a b c) Q) := by
  obtain ⟨fd, F, hb⟩ := M
  refine ⟨fun pins s σ H Q I h => ?_⟩
  refine wpAny_Call_Name_kw (ld_glob I hg T.gA ?_ (by decide))
  refine PySem.W.callWith_K (h₀ := X.base) I.ok.mod.kin T.mkA.kp (thn (ha.run pos pins s σ H _ I h) fun us s1 ⟨vs, H1, I1, r, v, a, b, c, ev, hv, hg2, q⟩ => ⟨I1.kIn, ?_⟩) he hpl
  subst ev
  refine run_make T.mkA F (hr.mono hk) hb .nil pass0 I1 r fun x dx nx nd ne => ?_
  have s0 : Same H1 (upd (upd H1 dx (.own x)) x (.ins (CA X.K) dx [])) := Same.new _ (Same.new _ (Same.refl H1) nd) (by rw [upd_ne (Ne.symm ne)]; exact nx)
  exact ⟨x, dx, v, a, b, c, rfl, upd_same, hv.same s0, hg2, fun q' H' hp hq kp => ⟨rfl, q x H' (Same.made (Same.refl H1) nx nd kp) ⟨dx, q', hp, hq⟩⟩⟩
theorem pe_AK {X : Cx} {K : PySem.W.Frag} {e : Expr} {es : List Expr} {t : TA} {p pos : Pos} {k : Nat} (hK : X.K = K) (T : AtTx K X.mg) (M : MkA X.prog X.w K X.mg X.base) (hr : Room k X.A) (ha : PA X (e :: es) t) (hk : 5 ≤ k := by decide) (hg : Gl X "AtLeast" := by rfl)
    (he : starEach (e :: es) X.env = (false, eval e X.env) :: starEach es X.env := by rfl) (hpl : (backTo pos (starEach es X.env)).any (·.1) = false := by rfl) :
    PE X (.Call (.Name "AtLeast" p) (e :: es) [] pos) (fun σ H Q => t σ H fun vs H1 => ∃ v a b c, vs = [v] ∧ SumV K H1 v a b c ∧ g2 a b < 1073741824 ∧ NewA K H1 (a.fdiv (g2 a b)) (b.fdiv (g2 a b)) (lf3 a b c) Q) := by
  subst hK
  exact pe_A T M hr ha hk hg he hpl
end
section
variable {P : Program} {w : World} {K : PySem.W.Frag} {mg : Str → Option Value} {base : Heap}
/-- what may be called as Rest(v, m, r) -/
def MkR (P : Program) (w : World) (K : PySem.W.Frag) (mg : Str → Option Value) (base : Heap) : Prop := ∃ fd, FnOk P w K mg base (L2.CX P w) 4 (He.ma K (CR K) "__init__") fd ["self", "straight", "modulus", "rest"] (spRI K) ∧ Binds K fd ["self", "straight", "modulus", "rest"] []
theorem scRest__init__ : FnScope ["self", "straight", "modulus", "rest", "told"] ["self", "straight", "modulus", "rest"] (defScope iRest__init__) := ⟨rfl, rfl, rfl, by decide +kernel, rfl, by decide +kernel, by decide +kernel⟩
theorem mk_R {fd : FuncData} (T : AtTx K mg) (M : MkS P w K mg base) (MB : Mx P w K mg base "BadNumber" ["self", "what", "number"] ["what", "number"]) (dLike : Dn P w K mg base 3 "straight_like" ["value"] (spLike K)) (dIsIntFrom : Dn P w K mg base 2 "is_integer_from" ["value", "low", "high"] spIntFrom)
    (F : FnM K "Rest" "__init__" "Rest.__init__" iRest__init__ fd) : MkR P w K mg base := by
  refine ⟨fd, ?_, F.bindsN fun _ _ _ _ _ _ us hl => match us, hl with | [_, _, _, _], _ => rfl⟩
  refine F.ok scRest__init__ (fun vs H Q E h => ?_) (fun cdv A outer s H vs Q E hr h => ?_)
  · obtain ⟨p, dx, v, m, r, rfl, _⟩ := h
    rfl
  · obtain ⟨p, dx, v, m, r, rfl, hp, a, b, c, hv, b1, b2, k⟩ := h
    obtain ⟨tTOP_MODULUS, hTOP_MODULUS⟩ := T.topM
    refine ⟨_, (pss_cons (ps_if (pt_not (pt_val (pe_dn dIsIntFrom hr (pa_cons (pv 2) (pa_cons pe_int (pa_cons (pe_glob (v := .int 4) rfl hTOP_MODULUS ⟨tTOP_MODULUS, rfl⟩) pa_nil)))))) (pss_one (ps_raise rfl (takes_of rfl rfl rfl rfl) (pmk_err MB hr (pa_cons pe_str (pa_cons (pv 2) pa_nil))))) pss_nil)
      (pss_cons (ps_if (pt_not (pt_val (pe_dn dIsIntFrom hr (pa_cons (pv 3) (pa_cons pe_int (pa_cons (pe_op op_sub (pv 2) pe_int) pa_nil)))))) (pss_one (ps_raise rfl (takes_of rfl rfl rfl rfl) (pmk_err MB hr (pa_cons pe_str (pa_cons (pv 3) pa_nil))))) pss_nil)
      (pss_cons (ps_set (i := 4) scRest__init__.nd rfl (Or.inl rfl) (pe_dn dLike hr (pa_cons (pv 1) pa_nil)))
      (pss_cons (ps_fld (pv 0) (pe_S T.toStTx M hr (pa_cons (pe_op op_modN (pe_fld (pv 4) rfl) (pv 2)) (pa_cons (pe_op op_modN (pe_fld (pv 4) rfl) (pv 2)) (pa_cons pe_int pa_nil)))) rfl)
      (pss_cons (ps_fld (pv 0) (pv 2) rfl)
      (pss_one (ps_fld (pv 0) (pe_op op_modN (pe_op op_sub (pv 3) (pe_fld (pv 4) rfl)) (pv 2)) rfl))))))), ?_⟩
    refine ⟨_, rfl, m, 2, 4, rfl, ?_⟩
    by_cases hm : 2 ≤ m ∧ m ≤ 4
    · rw [decide_eq_true hm]
      refine ⟨_, rfl, iteF ?_⟩
      refine ⟨_, rfl, _, rfl, _, _, rfl, rfl, r, 0, m - 1, rfl, ?_⟩
      by_cases hq : 0 ≤ r ∧ r ≤ m - 1
      · rw [decide_eq_true hq]
        refine ⟨_, rfl, iteF ?_⟩
        have k := k hm.1 hm.2 hq.1 hq.2
        have m0 : m ≠ 0 := by omega
        refine ⟨_, rfl, v, a, b, c, rfl, hv, fun q H1 s1 hq => ?_⟩
        obtain ⟨dq, hq⟩ := hq
        refine ⟨_, rfl, q, _, dq, _, _, rfl, hq, T.clS, T.nI, sf_i _ _ _, _, rfl, _, _, rfl, rfl, m0, ?_⟩
        refine ⟨_, rfl, q, _, dq, _, _, rfl, hq, T.clS, T.nN, sf_n _ _ _, _, rfl, _, _, rfl, rfl, m0, ?_⟩
        refine ⟨_, _, _, rfl, fun u H2 s2 hu1 hu2 => ?_⟩
        have hp2 : H2 p = some (.ins (CR K) dx []) := s2 _ _ (s1 _ _ hp)
        have nqp : q ≠ p := fun z => by
          rw [z, s1 _ _ hp] at hq
          have e : ([] : List (Str × V)) = sf a b c := congrArg (fun o : Option HO => match o with | some (.ins _ _ fs) => fs | _ => []) hq
          have l := sf_i a b c
          rw [← e] at l
          cases l
        have nup : u ≠ p := fun z => by
          rw [z, s1 _ _ hp] at hu1
          cases hu1
        refine ⟨_, rfl, p, _, dx, _, rfl, hp2, T.clQ, T.nRS, (by show 0 < 1000; decide), ?_⟩
        refine ⟨_, rfl, _, rfl, p, _, dx, _, rfl, upd_same, T.clQ, T.nRM, len1 _ _, ?_⟩
        refine ⟨_, rfl, _, rfl, q, _, dq, _, _, rfl, by rw [upd_ne nqp, upd_ne nqp]; exact s2 _ _ hq, T.clS, T.nO, sf_one _ _ _, _, _, rfl, rfl, _, rfl, _, _, rfl, rfl, m0, ?_⟩
        refine ⟨_, rfl, p, _, dx, _, rfl, upd_same, T.clQ, T.nRR, len2 _ _ _ _, ?_⟩
        obtain ⟨du, hu3⟩ := hu2
        refine k u _ upd_same ⟨du, by rw [upd_ne nup, upd_ne nup, upd_ne nup]; exact hu3⟩ (fun b o nb e => ?_)
        rw [upd_ne nb, upd_ne nb, upd_ne nb]
        exact s2 _ _ (s1 _ _ e)
      · rw [decide_eq_false hq]
        refine ⟨_, rfl, iteT ?_⟩
        exact ⟨_, rfl, err_go (K := K) (x := "BadNumber") (fs := ["what", "number"]) (by show 2 ≤ 1000; decide) rfl fun e H' s he => b2 hm.1 hm.2 hq e H' s he⟩
    · rw [decide_eq_false hm]
      refine ⟨_, rfl, iteT ?_⟩
      exact ⟨_, rfl, err_go (K := K) (x := "BadNumber") (fs := ["what", "number"]) (by show 2 ≤ 1000; decide) rfl fun e H' s he => b1 hm e H' s he⟩
theorem pe_R {X : Cx} {e : Expr} {es : List Expr} {t : TA} {p pos : Pos} {k : Nat} {E : L2.St → XK} (T : AtTx X.K X.mg) (M : MkR X.prog X.w X.K X.mg X.base) (hr : Room k X.A) (hx : ∀ σ, PassesAt (L2.CX X.prog X.w) X σ (E σ)) (ha : PA X (e :: es) t) (hk : 5 ≤ k := by decide) (hg : Gl X "Rest" := by rfl)
    (he : starEach (e :: es) X.env = (false, eval e X.env) :: starEach es X.env := by rfl) (hpl : (backTo pos (starEach es X.env)).any (·.1) = false := by rfl) :
    PE X (.Call (.Name "Rest" p) (e :: es) [] pos) (fun σ H Q => t σ H fun vs H1 => ∃ v m r, vs = [v, .int m, .int r] ∧ rRst X.K v m r H1 (fun a b c => NewR X.K H1 (a.fmod m) (b.fmod m) m ((r - c).fmod m) Q) (E σ)) := by
  obtain ⟨fd, F, hb⟩ := M
  refine ⟨fun pins s σ H Q I h => ?_⟩
  refine wpAny_Call_Name_kw (ld_glob I hg T.gR ?_ (by decide))
  refine PySem.W.callWith_K (h₀ := X.base) I.ok.mod.kin T.mkR.kp (thn (ha.run pos pins s σ H _ I h) fun us s1 ⟨vs, H1, I1, rr, v, m, r, ev, a, b, c, hv, b1, b2, q⟩ => ⟨I1.kIn, ?_⟩) he hpl
  subst ev
  refine make_at T.mkR F (hr.mono hk) hb (hx σ) I1 rr fun x dx nx nd ne => ?_
  have s0 : Same H1 (upd (upd H1 dx (.own x)) x (.ins (CR X.K) dx [])) := Same.new _ (Same.new _ (Same.refl H1) nd) (by rw [upd_ne (Ne.symm ne)]; exact nx)
  exact ⟨x, dx, v, m, r, rfl, upd_same, a, b, c, hv.same s0, fun z e H' s he => b1 z e H' (s0.trans s) he, fun z1 z2 z e H' s he => b2 z1 z2 z e H' (s0.trans s) he, fun z1 z2 z3 z4 q' H' hp hq kp => ⟨rfl, q z1 z2 z3 z4 x H' (Same.made (Same.refl H1) nx nd kp) ⟨dx, q', hp, hq⟩⟩⟩
end
end K28
set_option maxHeartbeats 4000000
namespace K28
open PySem PySem.Spec PyProof.Rows L2 Z
abbrev CRd (K : PySem.W.Frag) : Addr := He.ga K "Read"
abbrev CSt (K : PySem.W.Frag) : Addr := He.ga K "Statement"
abbrev CL (K : PySem.W.Frag) : Addr := He.ga K "Loop"
abbrev CPr (K : PySem.W.Frag) : Addr := He.ga K "Program"
structure PrTx (K : PySem.W.Frag) (mg : Str → Option Value) : Prop extends AtTx K mg where
  plc : PlTx K mg
  clR : Cls K (CRd K)
  nRA : NoAttr K (CRd K) "array"
  nRP : NoAttr K (CRd K) "place"
  nRF : NoAttr K (CRd K) "factor"
  clM : Cls K (CSt K)
  nMA : NoAttr K (CSt K) "array"
  nMC : NoAttr K (CSt K) "cell"
  nMK : NoAttr K (CSt K) "constant"
  nMR : NoAttr K (CSt K) "reads"
  nMG : NoAttr K (CSt K) "conditions"
  clL : Cls K (CL K)
  nLo : NoAttr K (CL K) "low"
  nHi : NoAttr K (CL K) "high"
  nSt : NoAttr K (CL K) "statements"
  nSp : NoAttr K (CL K) "step"
  nDn : NoAttr K (CL K) "down"
  clP : Cls K (CPr K)
  nPL : NoAttr K (CPr K) "loops"
  nPA : NoAttr K (CPr K) "arrays"
  nPK : NoAttr K (CPr K) "known"
  con : ∀ q ∈ ([("TOP_PART", 12), ("TOP_ONE", 999), ("TOP_RANGE_PART", 3), ("TOP_DIVISOR", 3), ("TOP_STEP", 16), ("MOST_LOOPS", 6), ("MOST_STATEMENTS", 16), ("MOST_READS", 3), ("MOST_CONDITIONS", 3)] : List (Str × Int)), ∃ t, mg q.1 = some (.int q.2 t)
  gKW : mg "KEPT_WORDS" = some (.ref (He.ga K "KEPT_WORDS"))
  tKW : ∀ H : Hp, SqT K H (He.ga K "KEPT_WORDS") (kept.map V.str)
  gLe : ∃ t, mg "LETTERS" = some (.str lets t)
  len : mg "len" = none
  tuple : mg "tuple" = none
  all : mg "all" = none
  str : mg "str" = none
  set : mg "set" = none
  sorted : mg "sorted" = none
def spCkN (K : PySem.W.Frag) : Sp := fun vs H Q E => ∃ (w : Str) (v lo hi : Int), vs = [.str w, .int v, .int lo, .int hi] ∧ Out (ckN w v lo hi) (Rz K H E) (Q .non H)
def spCkM (K : PySem.W.Frag) : Sp := fun vs H Q E => ∃ (w : Str) (l : Addr) (m : Int) (xs : List V), vs = [.str w, .ref l, .int m] ∧ SqA K H l xs ∧ Out (ckM w xs.length m) (Rz K H E) (Q .non H)
def spIsName : Sp := fun vs H Q _ => ∃ x : Str, vs = [.str x] ∧ x.length ≤ 1000 ∧ ∀ H', Same H H' → Q (.bl (isName x)) H'
def spCkA (K : PySem.W.Frag) : Sp := fun vs H Q E => ∃ x : Str, vs = [.str x] ∧ x.length ≤ 1000 ∧ Out (ckA x) (Rz K H E) (∀ H', Same H H' → Q .non H')
def spCkS (K : PySem.W.Frag) : Sp := fun vs H Q E => ∃ (q : Addr) (a b c : Int), vs = [.ref q] ∧ StrAt K H q a b c ∧ Out (ckS a b c) (Rz K H E) (Q .non H)
def spCkP (K : PySem.W.Frag) : Sp := fun vs H Q E => ∃ (q : Addr) (a b c d : Int), vs = [.ref q] ∧ PlcAt K H q a b c d ∧ Out (ckP a b c d) (Rz K H E) (Q .non H)
def spCkR (K : PySem.W.Frag) : Sp := fun vs H Q E => ∃ (q : Addr) (a b c d : Int), vs = [.ref q] ∧ PlcAt K H q a b c d ∧ Out (ckR a b c d) (Rz K H E) (Q .non H)
/-- a place, or a sum or an int in its place -/
def PlV (K : PySem.W.Frag) (H : Hp) (v : V) (a b c d : Int) : Prop := (∃ q, v = .ref q ∧ PlcAt K H q a b c d) ∨ (SumV K H v a b c ∧ d = 1)
theorem PlV.same {K : PySem.W.Frag} {H H' : Hp} {v : V} {a b c d : Int} (h : PlV K H v a b c d) (s : Same H H') : PlV K H' v a b c d := by
  rcases h with ⟨q, e, h⟩ | ⟨h, e⟩
  · exact .inl ⟨q, e, h.same s⟩
  · exact .inr ⟨h.same s, e⟩
def spPLike (K : PySem.W.Frag) : Sp := fun vs H Q _ => ∃ (v : V) (a b c d : Int), vs = [v] ∧ PlV K H v a b c d ∧ ∀ q H', Same H H' → PlcAt K H' q a b c d → Q (.ref q) H'
section
variable {P : Program} {w : World} {K : PySem.W.Frag} {mg : Str → Option Value} {base : Heap}
theorem sc_check_number : FnScope ["what", "number", "low", "high"] ["what", "number", "low", "high"] (defScope s_check_number) := ⟨rfl, rfl, rfl, by decide +kernel, rfl, by decide +kernel, by decide +kernel⟩
theorem ok_ckN {f : Addr} {fd : FuncData} (F : FnP K "check_number" s_check_number f fd) (MB : Mx P w K mg base "BadNumber" ["self", "what", "number"] ["what", "number"]) : FnOk P w K mg base (L2.CX P w) 3 f fd ["what", "number", "low", "high"] (spCkN K) := by
  refine F.ok sc_check_number (fun vs H Q E h => ?_) (fun cdv A outer s H vs Q E hr h => ?_)
  · obtain ⟨w, v, lo, hi, rfl, _⟩ := h
    rfl
  · obtain ⟨w, v, lo, hi, rfl, k⟩ := h
    refine ⟨_, (pss_one (ps_if (pt_not (pt_chain op_le op_le (pv 2) (pv 1) (pv 3))) (pss_one (ps_raise rfl (takes_of rfl rfl rfl rfl) (pmk_err MB hr (pa_cons (pv 0) (pa_cons (pv 1) pa_nil))))) pss_nil)), ?_⟩
    have bad : ¬ (lo ≤ v ∧ v ≤ hi) → Rz K H E (.num w v) := fun z => k.1 _ (if_neg z)
    have rs : ∀ z : ¬ (lo ≤ v ∧ v ≤ hi), _ := fun z => err_go (K := K) (x := "BadNumber") (fs := ["what", "number"]) (vs := [.str w, .int v]) (H1 := H) (Q := E) (by show 2 ≤ 1000; decide) rfl fun d H' s hd => bad z d H' s hd
    refine ⟨_, rfl, _, rfl, _, _, rfl, rfl, _, rfl, ?_⟩
    by_cases h1 : lo ≤ v
    · rw [decide_eq_true h1]
      refine iteT ⟨_, rfl, _, _, rfl, rfl, _, rfl, ?_⟩
      by_cases h2 : v ≤ hi
      · rw [decide_eq_true h2]
        exact iteF (k.2 (if_pos ⟨h1, h2⟩))
      · rw [decide_eq_false h2]
        exact iteT ⟨_, rfl, _, rfl, rs fun z => h2 z.2⟩
    · rw [decide_eq_false h1]
      exact iteF ⟨_, rfl, iteT ⟨_, rfl, _, rfl, rs fun z => h1 z.1⟩⟩
end
end K28
set_option maxHeartbeats 4000000
namespace K28
open PySem PySem.Spec PyProof.Rows L2 Z
theorem if_no {b : Bool} {A B : Prop} (h : b = false) (k : B) : if b = true then A else B := by
  rw [h]
  exact k
theorem if_yes {b : Bool} {A B : Prop} (h : b = true) (k : A) : if b = true then A else B := by
  rw [h]
  exact k
theorem inv_strs (x : Str) (ys : List Str) : inV (.str x) (ys.map V.str) = decide (x ∈ ys) := by
  unfold inV
  induction ys with
  | nil => simp
  | cons y ys ih =>
    rw [List.map_cons, List.any_cons, ih]
    by_cases h : y = x
    · subst h
      simp [eqV]
    · have h2 : ¬ x = y := fun z => h z.symm
      simp [eqV, h, h2]
theorem flat_strs (ys : List Str) : (ys.map V.str).all flatV = true := by
  induction ys with
  | nil => rfl
  | cons y ys ih => simp [flatV] at ih ⊢
theorem kss {K : PySem.W.Frag} : PySem.W.kitOne K (.type "str") (.type "str") = some true := kit_ty (by decide +kernel)
theorem sz1000 : 1000 ≤ sizeLine := by show 1000 ≤ sizeLine; decide
theorem yes_of {σ : L2.St} {H : Hp} {A B : Hp → Prop} (h : A H) : tYes σ H (fun b H3 => if b = true then A H3 else B H3) := by
  show if true = true then A H else B H
  rw [if_pos rfl]
  exact h
theorem all_take (p : Nat → Bool) (l : List Nat) : (l.map p).all id = l.all p := by
  induction l with
  | nil => rfl
  | cons x l ih => simp [ih]
theorem RzK.of {K : PySem.W.Frag} {H H1 : Hp} {E : XK} {e : Er} {p : Addr} (h : RzK K p H E e) (k : Keep p H H1) : Rz K H1 E e := h.rz k
section
variable {P : Program} {w : World} {K : PySem.W.Frag} {mg : Str → Option Value} {base : Heap}
theorem sc_check_many : FnScope ["what", "things", "most"] ["what", "things", "most"] (defScope s_check_many) := ⟨rfl, rfl, rfl, by decide +kernel, rfl, by decide +kernel, by decide +kernel⟩
theorem ok_ckM {f : Addr} {fd : FuncData} (F : FnP K "check_many" s_check_many f fd) (T : PrTx K mg) (MT : Mx P w K mg base "TooMany" ["self", "what", "many", "limit"] ["what", "many", "limit"]) : FnOk P w K mg base (L2.CX P w) 3 f fd ["what", "things", "most"] (spCkM K) := by
  refine F.ok sc_check_many (fun vs H Q E h => ?_) (fun cdv A outer s H vs Q E hr h => ?_)
  · obtain ⟨w, l, m, xs, rfl, _⟩ := h
    rfl
  · obtain ⟨w, l, m, xs, rfl, hs, k⟩ := h
    refine ⟨_, (pss_one (ps_if (pt_cmpR op_gt (pe_callB call_len_seq (by rfl) T.len PySem.boot_len (pa_cons (pv 1) pa_nil)) (pv 2) (nomark _)) (pss_one (ps_raise rfl (takes_of rfl rfl rfl rfl) (pmk_err MT hr (pa_cons (pv 0) (pa_cons (pe_callB call_len_seq (by rfl) T.len PySem.boot_len (pa_cons (pv 1) pa_nil)) (pa_cons (pv 2) pa_nil)))))) pss_nil)), ?_⟩
    refine ⟨_, rfl, l, xs, rfl, hs, _, rfl, _, _, rfl, rfl, _, rfl, ?_⟩
    by_cases h1 : (xs.length : Int) ≤ m
    · rw [decide_eq_false (by omega)]
      exact iteF (k.2 (if_pos h1))
    · rw [decide_eq_true (by omega)]
      have bad := k.1 _ (if_neg h1)
      exact iteT ⟨_, rfl, _, rfl, l, xs, rfl, hs, _, rfl, err_go (K := K) (x := "TooMany") (fs := ["what", "many", "limit"]) (by show 3 ≤ 1000; decide) rfl fun d H' s hd => bad d H' s hd⟩
theorem sc_is_array_name : FnScope ["value", "letter"] ["value"] (defScope s_is_array_name) := ⟨rfl, rfl, rfl, by decide +kernel, rfl, by decide +kernel, by decide +kernel⟩
theorem ok_isName {f : Addr} {fd : FuncData} (F : FnP K "is_array_name" s_is_array_name f fd) (T : PrTx K mg) : FnOk P w K mg base CX0 1 f fd ["value"] spIsName := by
  refine F.ok sc_is_array_name (fun vs H Q E h => ?_) (fun cdv A outer s H vs Q E hr h => ?_)
  · obtain ⟨x, rfl, _⟩ := h
    rfl
  · obtain ⟨x, rfl, hx, k⟩ := h
    obtain ⟨tLe, hLe⟩ := T.gLe
    refine ⟨_, PSs.nox (pss_cons (ps_if (PW.pt (pw_or (pt_not (pt_val (pe_callB call_isi (by rfl) T.isi (by decide +kernel) (pa_cons (pv 0) (pa_cons (pe_bltn (v := .ty "str") (by rfl) T.str (by decide +kernel) rfl) pa_nil))))) (pw_or1 (pt_not (pt_chain op_le op_le pe_int (pe_callB call_len_str (by rfl) T.len PySem.boot_len (pa_cons (pv 0) pa_nil)) pe_int))))) (pss_one (ps_ret pe_bl)) pss_nil)
      (pss_one (ps_ret (pe_and (pe_callB (cr_all rfl) (by rfl) T.all (by decide +kernel) (pa_cons (pe_lc (own := [("letter", 1)]) (g := gName 1) (tt := tYes) rfl sc_is_array_name.nd (pi_str (pv 0)) (blkOk_by (N := ["value", "letter"]) (sc := defScope s_is_array_name) (by decide +kernel)) (fun _ _ _ _ _ => (pg_name (i := 1) sc_is_array_name.nd rfl (.inl rfl))) (fun _ _ _ _ _ => pts_nil) (fun _ _ _ _ _ => (pe_cmpR op_in_sign (pv 1) (pe_glob (v := .str lets) rfl hLe ⟨tLe, rfl⟩) rfl))) pa_nil)) (pe_one (pe_cmpR op_notIn_seq (pv 0) (pe_glob (v := .ref (He.ga K "KEPT_WORDS")) rfl T.gKW rfl) (by with_unfolding_all rfl))))))), ?_⟩
    have hz : x.length ≤ sizeLine := Nat.le_trans hx sz1000
    refine ⟨_, rfl, _, _, _, _, _, rfl, .ty _, .base (.str x), kss, _, rfl, ?_⟩
    refine if_no rfl ?_
    refine ⟨_, rfl, _, rfl, hz, _, _, rfl, rfl, _, rfl, ?_⟩
    have no : ¬ (1 ≤ x.length ∧ x.length ≤ 8) → Q (.bl false) H := fun z => by
      have q := k H (Same.refl H)
      unfold isName at q
      rw [decide_eq_false z] at q
      exact q
    by_cases h1 : (1 : Int) ≤ (x.length : Int)
    · rw [decide_eq_true h1]
      refine iteT ⟨_, _, rfl, rfl, _, rfl, ?_⟩
      by_cases h2 : (x.length : Int) ≤ 8
      · rw [decide_eq_true h2]
        refine if_no rfl ?_
        refine ⟨_, rfl, x, rfl, fun D hD => ?_⟩
        refine lc_str (fun i Hc => Hc D = some (.lst ((((x.cps.toList.take i).map fun c => decide (c ∈ lets.cps.toList))).map V.bl)) ∧ ∀ b o, H b = some o → Hc b = some o) ⟨upd_same, Same.new _ (Same.refl H) hD⟩ ?_ ?_
        · rintro i c Hc hc ⟨hc1, hc2⟩
          refine ⟨rfl, yes_of ?_⟩
          refine ⟨_, rfl, c, lets, rfl, rfl, ?_⟩
          have hi : i < x.cps.toList.length := by
            rw [Array.length_toList]
            exact (Array.getElem?_eq_some_iff.mp hc).1
          have ci : x.cps.toList[i]? = some c := by
            rw [Array.getElem?_toList]
            exact hc
          refine ⟨_, hc1, ?_, ?_, fun b o e => ?_⟩
          · rw [List.length_map, List.length_map, List.length_take]
            have : x.cps.toList.length = x.length := Array.length_toList
            have := sz1000
            omega
          · rw [upd_same, List.take_add_one, ci]
            simp
          · rw [upd_ne (ne_of_none e hD)]
            exact hc2 b o e
        · rintro Hc ⟨hc1, hc2⟩
          rw [show x.cps.size = x.cps.toList.length from Array.length_toList.symm, List.take_length] at hc1
          refine ⟨D, _, rfl, SqL.of hc1, ?_⟩
          have e1 : (x.cps.toList.map fun c => decide (c ∈ lets.cps.toList)).all id = x.cps.toList.all fun c => decide (c ∈ lets.cps.toList) := all_take _ _
          rw [e1]
          have q := k Hc hc2
          unfold isName at q
          rw [decide_eq_true (show 1 ≤ x.length ∧ x.length ≤ 8 by omega), Bool.true_and] at q
          cases ha : x.cps.toList.all fun c => decide (c ∈ lets.cps.toList) with
          | false =>
            rw [ha] at q
            exact ⟨_, rfl, if_no rfl q⟩
          | true =>
            rw [ha, Bool.true_and] at q
            refine ⟨_, rfl, if_yes rfl ?_⟩
            refine ⟨_, rfl, _, _, rfl, .inr (T.tKW Hc), rfl, flat_strs kept, ?_⟩
            rw [inv_strs]
            show Q (.bl (!decide (x ∈ kept))) Hc
            rw [← decide_not]
            exact q
      · rw [decide_eq_false h2]
        exact if_yes rfl (no (by omega))
    · rw [decide_eq_false h1]
      exact iteF ⟨_, rfl, if_yes rfl (no (by omega))⟩
theorem sc_check_name : FnScope ["array"] ["array"] (defScope s_check_name) := ⟨rfl, rfl, rfl, by decide +kernel, rfl, by decide +kernel, by decide +kernel⟩
theorem ok_ckA {f : Addr} {fd : FuncData} (F : FnP K "check_name" s_check_name f fd) (MN : Mx P w K mg base "BadName" ["self", "name"] ["name"]) (dIsName : Dn P w K mg base 1 "is_array_name" ["value"] spIsName) : FnOk P w K mg base (L2.CX P w) 3 f fd ["array"] (spCkA K) := by
  refine F.ok sc_check_name (fun vs H Q E h => ?_) (fun cdv A outer s H vs Q E hr h => ?_)
  · obtain ⟨x, rfl, _⟩ := h
    rfl
  · obtain ⟨x, rfl, hx, k⟩ := h
    refine ⟨_, (pss_one (ps_if (pt_not (pt_val (pe_dn dIsName hr (pa_cons (pv 0) pa_nil)))) (pss_one (ps_raise rfl (takes_of rfl rfl rfl rfl) (pmk_err MN hr (pa_cons (pv 0) pa_nil)))) pss_nil)), ?_⟩
    refine ⟨_, rfl, x, rfl, hx, fun H1 s1 => ⟨_, rfl, ?_⟩⟩
    cases e : isName x with
    | true => exact if_no rfl (k.2 (if_pos e) H1 s1)
    | false =>
      have bad := (k.1 (.name x) (if_neg (by rw [e]; simp))).same s1
      exact if_yes rfl ⟨_, rfl, err_go (K := K) (x := "BadName") (fs := ["name"]) (by show 1 ≤ 1000; decide) rfl fun d H' s hd => bad d H' s hd⟩
theorem sc_check_sum : FnScope ["straight"] ["straight"] (defScope s_check_sum) := ⟨rfl, rfl, rfl, by decide +kernel, rfl, by decide +kernel, by decide +kernel⟩
theorem ok_ckS {f : Addr} {fd : FuncData} (F : FnP K "check_sum" s_check_sum f fd) (T : PrTx K mg) (dCkN : Dx P w K mg base 3 "check_number" ["what", "number", "low", "high"] (spCkN K)) : FnOk P w K mg base (L2.CX P w) 4 f fd ["straight"] (spCkS K) := by
  refine F.ok sc_check_sum (fun vs H Q E h => ?_) (fun cdv A outer s H vs Q E hr h => ?_)
  · obtain ⟨q, a, b, c, rfl, _⟩ := h
    rfl
  · obtain ⟨q, a, b, c, rfl, ⟨dx, hq⟩, k⟩ := h
    obtain ⟨tTOP_PART, hTOP_PART⟩ := T.con ("TOP_PART", 12) (by simp)
    obtain ⟨tTOP_ONE, hTOP_ONE⟩ := T.con ("TOP_ONE", 999) (by simp)
    refine ⟨_, (pss_cons (ps_expr (pe_dx (K := K) dCkN rfl hr (fun σ => passAt (takes_of rfl rfl rfl rfl) σ) (pa_cons pe_str (pa_cons (pe_fld (pv 0) rfl) (pa_cons (pe_un un_neg (pe_glob (v := .int 12) rfl hTOP_PART ⟨tTOP_PART, rfl⟩)) (pa_cons (pe_glob (v := .int 12) rfl hTOP_PART ⟨tTOP_PART, rfl⟩) pa_nil))))))
      (pss_cons (ps_expr (pe_dx (K := K) dCkN rfl hr (fun σ => passAt (takes_of rfl rfl rfl rfl) σ) (pa_cons pe_str (pa_cons (pe_fld (pv 0) rfl) (pa_cons (pe_un un_neg (pe_glob (v := .int 12) rfl hTOP_PART ⟨tTOP_PART, rfl⟩)) (pa_cons (pe_glob (v := .int 12) rfl hTOP_PART ⟨tTOP_PART, rfl⟩) pa_nil))))))
      (pss_one (ps_expr (pe_dx (K := K) dCkN rfl hr (fun σ => passAt (takes_of rfl rfl rfl rfl) σ) (pa_cons pe_str (pa_cons (pe_fld (pv 0) rfl) (pa_cons (pe_un un_neg (pe_glob (v := .int 999) rfl hTOP_ONE ⟨tTOP_ONE, rfl⟩)) (pa_cons (pe_glob (v := .int 999) rfl hTOP_ONE ⟨tTOP_ONE, rfl⟩) pa_nil))))))))), ?_⟩
    refine ⟨_, rfl, q, _, dx, _, _, rfl, hq, T.clS, T.nI, sf_i _ _ _, _, rfl, _, _, _, _, rfl, k.or (fun _ z => z) fun k => ?_⟩
    refine ⟨_, rfl, q, _, dx, _, _, rfl, hq, T.clS, T.nN, sf_n _ _ _, _, rfl, _, _, _, _, rfl, k.or (fun _ z => z) fun k => ?_⟩
    exact ⟨_, rfl, q, _, dx, _, _, rfl, hq, T.clS, T.nO, sf_one _ _ _, _, rfl, _, _, _, _, rfl, k⟩
theorem sc_check_place : FnScope ["place"] ["place"] (defScope s_check_place) := ⟨rfl, rfl, rfl, by decide +kernel, rfl, by decide +kernel, by decide +kernel⟩
theorem ok_ckP {f : Addr} {fd : FuncData} (F : FnP K "check_place" s_check_place f fd) (T : PrTx K mg) (dCkN : Dx P w K mg base 3 "check_number" ["what", "number", "low", "high"] (spCkN K)) (dCkS : Dx P w K mg base 4 "check_sum" ["straight"] (spCkS K)) : FnOk P w K mg base (L2.CX P w) 5 f fd ["place"] (spCkP K) := by
  refine F.ok sc_check_place (fun vs H Q E h => ?_) (fun cdv A outer s H vs Q E hr h => ?_)
  · obtain ⟨q, a, b, c, d, rfl, _⟩ := h
    rfl
  · obtain ⟨q, a, b, c, d, rfl, ⟨dx, r, hq, hr1⟩, k⟩ := h
    obtain ⟨tTOP_DIVISOR, hTOP_DIVISOR⟩ := T.con ("TOP_DIVISOR", 3) (by simp)
    refine ⟨_, (pss_cons (ps_expr (pe_dx (K := K) dCkS rfl hr (fun σ => passAt (takes_of rfl rfl rfl rfl) σ) (pa_cons (pe_fld (pv 0) rfl) pa_nil)))
      (pss_one (ps_expr (pe_dx (K := K) dCkN rfl hr (fun σ => passAt (takes_of rfl rfl rfl rfl) σ) (pa_cons pe_str (pa_cons (pe_fld (pv 0) rfl) (pa_cons pe_int (pa_cons (pe_glob (v := .int 3) rfl hTOP_DIVISOR ⟨tTOP_DIVISOR, rfl⟩) pa_nil)))))))), ?_⟩
    refine ⟨_, rfl, q, _, dx, _, _, rfl, hq, T.plc.clP, T.plc.nS, pf_s _ _, r, a, b, c, rfl, hr1, k.or (fun _ z => z) fun k => ?_⟩
    exact ⟨_, rfl, q, _, dx, _, _, rfl, hq, T.plc.clP, T.plc.nD, pf_d _ _, _, _, _, _, rfl, k⟩
theorem sc_check_range_place : FnScope ["place"] ["place"] (defScope s_check_range_place) := ⟨rfl, rfl, rfl, by decide +kernel, rfl, by decide +kernel, by decide +kernel⟩
theorem ok_ckR {f : Addr} {fd : FuncData} (F : FnP K "check_range_place" s_check_range_place f fd) (T : PrTx K mg) (dCkN : Dx P w K mg base 3 "check_number" ["what", "number", "low", "high"] (spCkN K)) : FnOk P w K mg base (L2.CX P w) 4 f fd ["place"] (spCkR K) := by
  refine F.ok sc_check_range_place (fun vs H Q E h => ?_) (fun cdv A outer s H vs Q E hr h => ?_)
  · obtain ⟨q, a, b, c, d, rfl, _⟩ := h
    rfl
  · obtain ⟨q, a, b, c, d, rfl, ⟨dx, r, hp, dq, hq⟩, k⟩ := h
    obtain ⟨tTOP_ONE, hTOP_ONE⟩ := T.con ("TOP_ONE", 999) (by simp)
    obtain ⟨tTOP_RANGE_PART, hTOP_RANGE_PART⟩ := T.con ("TOP_RANGE_PART", 3) (by simp)
    obtain ⟨tTOP_DIVISOR, hTOP_DIVISOR⟩ := T.con ("TOP_DIVISOR", 3) (by simp)
    refine ⟨_, (pss_cons (ps_expr (pe_dx (K := K) dCkN rfl hr (fun σ => passAt (takes_of rfl rfl rfl rfl) σ) (pa_cons pe_str (pa_cons (pe_fld (pe_fld (pv 0) rfl) rfl) (pa_cons pe_int (pa_cons pe_int pa_nil))))))
      (pss_cons (ps_expr (pe_dx (K := K) dCkN rfl hr (fun σ => passAt (takes_of rfl rfl rfl rfl) σ) (pa_cons pe_str (pa_cons (pe_fld (pe_fld (pv 0) rfl) rfl) (pa_cons pe_int (pa_cons (pe_glob (v := .int 3) rfl hTOP_RANGE_PART ⟨tTOP_RANGE_PART, rfl⟩) pa_nil))))))
      (pss_cons (ps_expr (pe_dx (K := K) dCkN rfl hr (fun σ => passAt (takes_of rfl rfl rfl rfl) σ) (pa_cons pe_str (pa_cons (pe_fld (pe_fld (pv 0) rfl) rfl) (pa_cons (pe_un un_neg (pe_glob (v := .int 999) rfl hTOP_ONE ⟨tTOP_ONE, rfl⟩)) (pa_cons (pe_glob (v := .int 999) rfl hTOP_ONE ⟨tTOP_ONE, rfl⟩) pa_nil))))))
      (pss_one (ps_expr (pe_dx (K := K) dCkN rfl hr (fun σ => passAt (takes_of rfl rfl rfl rfl) σ) (pa_cons pe_str (pa_cons (pe_fld (pv 0) rfl) (pa_cons pe_int (pa_cons (pe_glob (v := .int 3) rfl hTOP_DIVISOR ⟨tTOP_DIVISOR, rfl⟩) pa_nil)))))))))), ?_⟩
    refine ⟨_, rfl, q, _, dx, _, _, rfl, hp, T.plc.clP, T.plc.nS, pf_s _ _, r, _, dq, _, _, rfl, hq, T.clS, T.nI, sf_i _ _ _, _, _, _, _, rfl, k.or (fun _ z => z) fun k => ?_⟩
    refine ⟨_, rfl, q, _, dx, _, _, rfl, hp, T.plc.clP, T.plc.nS, pf_s _ _, r, _, dq, _, _, rfl, hq, T.clS, T.nN, sf_n _ _ _, _, _, _, _, rfl, k.or (fun _ z => z) fun k => ?_⟩
    refine ⟨_, rfl, q, _, dx, _, _, rfl, hp, T.plc.clP, T.plc.nS, pf_s _ _, r, _, dq, _, _, rfl, hq, T.clS, T.nO, sf_one _ _ _, _, rfl, _, _, _, _, rfl, k.or (fun _ z => z) fun k => ?_⟩
    exact ⟨_, rfl, q, _, dx, _, _, rfl, hp, T.plc.clP, T.plc.nD, pf_d _ _, _, _, _, _, rfl, k⟩
theorem sc_place_like : FnScope ["value"] ["value"] (defScope s_place_like) := ⟨rfl, rfl, rfl, by decide +kernel, rfl, by decide +kernel, by decide +kernel⟩
theorem ok_pLike {f : Addr} {fd : FuncData} (F : FnP K "place_like" s_place_like f fd) (T : PrTx K mg) (MP : MkP P w K mg base) : FnOk P w K mg base CX0 6 f fd ["value"] (spPLike K) := by
  refine F.ok sc_place_like (fun vs H Q E h => ?_) (fun cdv A outer s H vs Q E hr h => ?_)
  · obtain ⟨v, a, b, c, d, rfl, _⟩ := h
    rfl
  · obtain ⟨v, a, b, c, d, rfl, h, k⟩ := h
    refine ⟨_, PSs.nox (pss_one (ps_ret (pe_ifExp (pt_val (pe_callB call_isi (by rfl) T.isi (by decide +kernel) (pa_cons (pv 0) (pa_cons (pe_glob (v := .ref (CP K)) rfl T.plc.gP rfl) pa_nil)))) (pv 0) (pe_P T.plc MP hr at_E0 (pa_cons (pv 0) (pa_cons pe_int pa_nil)))))), ?_⟩
    have g1 : gg a b 1 = 1 := Nat.gcd_one_right _
    have go : ∀ q H', Same H H' → PlcAt K H' q (a.fdiv (gg a b 1)) (b.fdiv (gg a b 1)) (c.fdiv (gg a b 1)) ((1 : Int).fdiv (gg a b 1)) → d = 1 → Q (.ref q) H' := fun q H' s hq e => by
      rw [g1] at hq
      subst e
      have e1 : ((1 : Nat) : Int) = 1 := rfl
      rw [e1, Int.fdiv_one, Int.fdiv_one, Int.fdiv_one, Int.fdiv_one] at hq
      exact k q H' s hq
    rcases h with ⟨q, rfl, hq⟩ | ⟨hv, hd⟩
    · refine ⟨_, rfl, _, _, _, _, _, rfl, .own _, .base (T.plc.pty hq), T.plc.kPP, _, rfl, iteT ?_⟩
      exact ⟨_, rfl, k q H (Same.refl H) hq⟩
    · have fin : rPlG K v 1 H (fun y H' => Q y H') E0 := ⟨a, b, c, hv, fun z => absurd z (by decide), fun _ => ⟨by rw [g1]; decide, fun q H' s hq => go q H' s hq hd⟩⟩
      rcases id hv with ⟨q, rfl, hq⟩ | ⟨rfl, _, _⟩
      · refine ⟨_, rfl, _, _, _, _, _, rfl, .own _, .base (T.ty hq), T.plc.kSP, _, rfl, iteF ?_⟩
        exact ⟨_, rfl, _, 1, rfl, fin⟩
      · refine ⟨_, rfl, _, _, _, _, _, rfl, .own _, .base (.int c), T.plc.kiP, _, rfl, iteF ?_⟩
        exact ⟨_, rfl, _, 1, rfl, fin⟩
end
end K28
set_option maxHeartbeats 4000000
namespace K28
open PySem PySem.Spec PyProof.Rows L2 Z
theorem pl {f : Str} {v : V} {fs : List (Str × V)} {n : Nat} (h : fs.length < n) : (putF f v fs).length < n + 1 := Nat.lt_of_le_of_lt (length_putF f v fs) (Nat.succ_lt_succ h)
theorem pl0 {n : Nat} : ([] : List (Str × V)).length < n + 1 := Nat.succ_pos _
theorem ins_inj {H : Hp} {p C D dx dy : Addr} {fs gs : List (Str × V)} (h1 : H p = some (.ins C dx fs)) (h2 : H p = some (.ins D dy gs)) : fs = gs := by
  rw [h1] at h2
  exact congrArg (fun o : Option HO => match o with | some (.ins _ _ fs) => fs | _ => []) h2
section
variable {K : PySem.W.Frag} {H H' : Hp} {p C dx : Addr} {fs : List (Str × V)}
theorem _root_.Z.StrAt.up {q : Addr} {a b c : Int} (h : StrAt K H q a b c) (hp : H p = some (.ins C dx fs)) (k : Keep p H H') (ni : fs.lookup ("i" : Str) = none) : StrAt K H' q a b c := by
  obtain ⟨dq, hq⟩ := h
  refine ⟨dq, k _ _ (fun z => ?_) hq⟩
  subst z
  have e := ins_inj hp hq
  rw [e, sf_i] at ni
  cases ni
theorem _root_.Z.PlcAt.up {q : Addr} {a b c d : Int} (h : PlcAt K H q a b c d) (hp : H p = some (.ins C dx fs)) (k : Keep p H H') (nl : fs.lookup ("straight" : Str) = none) (ni : fs.lookup ("i" : Str) = none) : PlcAt K H' q a b c d := by
  obtain ⟨dq, r, hq, hr⟩ := h
  refine ⟨dq, r, k _ _ (fun z => ?_) hq, hr.up hp k ni⟩
  subst z
  have e := ins_inj hp hq
  rw [e, pf_s] at nl
  cases nl
theorem _root_.Z.SumV.up {v : V} {a b c : Int} (h : SumV K H v a b c) (hp : H p = some (.ins C dx fs)) (k : Keep p H H') (ni : fs.lookup ("i" : Str) = none) : SumV K H' v a b c := by
  rcases h with ⟨q, e, hq⟩ | h
  · exact .inl ⟨q, e, hq.up hp k ni⟩
  · exact .inr h
theorem PlV.up {v : V} {a b c d : Int} (h : PlV K H v a b c d) (hp : H p = some (.ins C dx fs)) (k : Keep p H H') (nl : fs.lookup ("straight" : Str) = none) (ni : fs.lookup ("i" : Str) = none) : PlV K H' v a b c d := by
  rcases h with ⟨q, e, hq⟩ | ⟨h, e⟩
  · exact .inl ⟨q, e, hq.up hp k nl ni⟩
  · exact .inr ⟨h.up hp k ni, e⟩
theorem rd_up {l : Addr} {u : HO} (h : Rd H l u) (hp : H p = some (.ins C dx fs)) (k : Keep p H H') (nu : ∀ C d fs, u ≠ .ins C d fs) : Rd H' l u := by
  rcases h with h | ⟨o, h⟩
  · refine .inl (k _ _ (fun z => ?_) h)
    subst z
    rw [hp] at h
    exact nu _ _ _ (Option.some.inj h).symm
  · refine .inr ⟨o, k _ _ (fun z => ?_) h⟩
    subst z
    rw [hp] at h
    cases h
theorem SqT.up {l : Addr} {xs : List V} (h : SqT K H l xs) (hp : H p = some (.ins C dx fs)) (k : Keep p H H') : SqT K H' l xs := h.imp (fun r => rd_up r hp k fun _ _ _ z => by cases z) id
theorem SqL.up {l : Addr} {xs : List V} (h : SqL K H l xs) (hp : H p = some (.ins C dx fs)) (k : Keep p H H') : SqL K H' l xs := h.imp (fun r => rd_up r hp k fun _ _ _ z => by cases z) id
theorem SqA.up {l : Addr} {xs : List V} (h : SqA K H l xs) (hp : H p = some (.ins C dx fs)) (k : Keep p H H') : SqA K H' l xs := h.imp (fun r => SqL.up r hp k) fun r => SqT.up r hp k
theorem rd_same {l : Addr} {u : HO} (h : Rd H l u) (s : Same H H') : Rd H' l u := h.imp (fun h => s _ _ h) fun ⟨o, h⟩ => ⟨o, s _ _ h⟩
theorem SqT.same {l : Addr} {xs : List V} (h : SqT K H l xs) (s : Same H H') : SqT K H' l xs := h.imp (fun r => rd_same r s) id
theorem SqL.same {l : Addr} {xs : List V} (h : SqL K H l xs) (s : Same H H') : SqL K H' l xs := h.imp (fun r => rd_same r s) id
theorem SqA.same {l : Addr} {xs : List V} (h : SqA K H l xs) (s : Same H H') : SqA K H' l xs := h.imp (fun r => SqL.same r s) fun r => SqT.same r s
theorem Keep.ofSame (s : Same H H') : Keep p H H' := fun b o _ e => s b o e
theorem keep_upd {o : HO} (k : Keep p H H') : Keep p H (upd H' p o) := fun b u nb e => by
  rw [upd_ne nb]
  exact k b u nb e
theorem keep_upd1 {o : HO} : Keep p H (upd H p o) := keep_upd fun _ _ _ e => e
theorem keep_trans {H'' : Hp} (k : Keep p H H') (s : Same H' H'') : Keep p H H'' := fun b u nb e => s _ _ (k b u nb e)
theorem keep_trans2 {H'' : Hp} (k : Keep p H H') (s : Keep p H' H'') : Keep p H H'' := fun b u nb e => s _ _ nb (k b u nb e)
theorem for_any {a : Addr} {xs : List V} {g : TG} {tb : TS} {D : Ends} {σ : L2.St} (hq : SqA K H a xs) (Pv : Nat → L2.St → Hp → Prop) (h0 : Pv 0 σ H) (hl : ∀ i σ' H', Pv i σ' H' → Same H H')
    (hs : ∀ i x σ H, xs[i]? = some x → Pv i σ H → g x σ H fun σ2 H2 => tb { D with nx := Pv (i + 1), ct := Pv (i + 1), bk := D.nx } σ2 H2) (hd : ∀ σ H, Pv xs.length σ H → D.nx σ H) :
    ((∃ xs, SqL K H a xs) ∧ ∃ W : Nat → Nat → L2.St → Hp → Prop, (∃ m, W 0 m σ H) ∧ ∀ i m σ H, W i m σ H →
      ((Itl K a).stop i H ∧ D.nx σ H) ∨ ((Itl K a).go i H ∧ ∃ N : L2.St → Hp → Prop, (∀ σ' H', N σ' H' → ∃ m', m' < m ∧ W (i + 1) m' σ' H') ∧ ∀ x H', (Itl K a).yld i H x H' → g x σ H' fun σ2 H2 => tb { D with nx := N, ct := N, bk := D.nx } σ2 H2)) ∨
    ((∃ xs, SqT K H a xs) ∧ ∃ W : Nat → Nat → L2.St → Hp → Prop, (∃ m, W 0 m σ H) ∧ ∀ i m σ H, W i m σ H →
      ((Itt K a).stop i H ∧ D.nx σ H) ∨ ((Itt K a).go i H ∧ ∃ N : L2.St → Hp → Prop, (∀ σ' H', N σ' H' → ∃ m', m' < m ∧ W (i + 1) m' σ' H') ∧ ∀ x H', (Itt K a).yld i H x H' → g x σ H' fun σ2 H2 => tb { D with nx := N, ct := N, bk := D.nx } σ2 H2)) := by
  rcases hq with h | h
  · exact .inl ⟨⟨xs, h⟩, for_list Pv h0 (fun i σ' H' _ q => SqL.same h (hl i σ' H' q)) hs hd⟩
  · exact .inr ⟨⟨xs, h⟩, for_tup Pv h0 (fun i σ' H' _ q => SqT.same h (hl i σ' H' q)) hs hd⟩
end
def rdf (x : Str) (q : Addr) (f : Int) : List (Str × V) := putF "factor" (.int f) (putF "place" (.ref q) (putF "array" (.str x) []))
def stf (x : Str) (q : Addr) (k : Int) (r g : Addr) : List (Str × V) := putF "conditions" (.ref g) (putF "reads" (.ref r) (putF "constant" (.int k) (putF "cell" (.ref q) (putF "array" (.str x) []))))
theorem ne1 : ¬ (("array" : Str) = "place") := by decide +kernel
theorem ne2 : ¬ (("array" : Str) = "factor") := by decide +kernel
theorem ne3 : ¬ (("place" : Str) = "factor") := by decide +kernel
theorem ne4 : ¬ (("array" : Str) = "cell") := by decide +kernel
theorem ne5 : ¬ (("array" : Str) = "constant") := by decide +kernel
theorem ne6 : ¬ (("array" : Str) = "reads") := by decide +kernel
theorem ne7 : ¬ (("array" : Str) = "conditions") := by decide +kernel
theorem ne8 : ¬ (("cell" : Str) = "constant") := by decide +kernel
theorem ne9 : ¬ (("cell" : Str) = "reads") := by decide +kernel
theorem ne10 : ¬ (("cell" : Str) = "conditions") := by decide +kernel
theorem ne11 : ¬ (("constant" : Str) = "reads") := by decide +kernel
theorem ne12 : ¬ (("constant" : Str) = "conditions") := by decide +kernel
theorem ne13 : ¬ (("reads" : Str) = "conditions") := by decide +kernel
theorem rdf_a (x : Str) (q : Addr) (f : Int) : (rdf x q f).lookup ("array" : Str) = some (.str x) := by
  unfold rdf
  rw [lookup_putF, if_neg ne2, lookup_putF, if_neg ne1, lookup_putF, if_pos rfl]
theorem rdf_p (x : Str) (q : Addr) (f : Int) : (rdf x q f).lookup ("place" : Str) = some (.ref q) := by
  unfold rdf
  rw [lookup_putF, if_neg ne3, lookup_putF, if_pos rfl]
theorem rdf_f (x : Str) (q : Addr) (f : Int) : (rdf x q f).lookup ("factor" : Str) = some (.int f) := by
  unfold rdf
  rw [lookup_putF, if_pos rfl]
theorem stf_a (x : Str) (q : Addr) (k : Int) (r g : Addr) : (stf x q k r g).lookup ("array" : Str) = some (.str x) := by
  unfold stf
  rw [lookup_putF, if_neg ne7, lookup_putF, if_neg ne6, lookup_putF, if_neg ne5, lookup_putF, if_neg ne4, lookup_putF, if_pos rfl]
theorem stf_c (x : Str) (q : Addr) (k : Int) (r g : Addr) : (stf x q k r g).lookup ("cell" : Str) = some (.ref q) := by
  unfold stf
  rw [lookup_putF, if_neg ne10, lookup_putF, if_neg ne9, lookup_putF, if_neg ne8, lookup_putF, if_pos rfl]
theorem stf_k (x : Str) (q : Addr) (k : Int) (r g : Addr) : (stf x q k r g).lookup ("constant" : Str) = some (.int k) := by
  unfold stf
  rw [lookup_putF, if_neg ne12, lookup_putF, if_neg ne11, lookup_putF, if_pos rfl]
theorem stf_r (x : Str) (q : Addr) (k : Int) (r g : Addr) : (stf x q k r g).lookup ("reads" : Str) = some (.ref r) := by
  unfold stf
  rw [lookup_putF, if_neg ne13, lookup_putF, if_pos rfl]
theorem stf_g (x : Str) (q : Addr) (k : Int) (r g : Addr) : (stf x q k r g).lookup ("conditions" : Str) = some (.ref g) := by
  unfold stf
  rw [lookup_putF, if_pos rfl]
section
variable (K : PySem.W.Frag)
def RdAt (H : Hp) (p : Addr) (x : Str) (a b c d f : Int) : Prop := ∃ dx q, H p = some (.ins (CRd K) dx (rdf x q f)) ∧ PlcAt K H q a b c d
/-- a condition: its sum -/
def CndAt (H : Hp) (v : V) (t : Int × Int × Int) : Prop := ∃ r C dx fs q, v = .ref r ∧ H r = some (.ins C dx fs) ∧ Cls K C ∧ NoAttr K C "straight" ∧ fs.lookup ("straight" : Str) = some (.ref q) ∧ StrAt K H q t.1 t.2.1 t.2.2
def Cnds (H : Hp) (cs : List V) (cc : List (Int × Int × Int)) : Prop := cs.length = cc.length ∧ ∀ (i : Nat) (v : V) (t : Int × Int × Int), cs[i]? = some v → cc[i]? = some t → CndAt K H v t
def StmAt (H : Hp) (p : Addr) (x : Str) (a b c k : Int) (rs cs : List V) : Prop := ∃ dx q r g, H p = some (.ins (CSt K) dx (stf x q k r g)) ∧ StrAt K H q a b c ∧ SqT K H r rs ∧ SqT K H g cs
def spRdI : Sp := fun vs H Q E => ∃ (p dx : Addr) (x : Str) (v : V) (f a b c d : Int), vs = [.ref p, .str x, v, .int f] ∧ H p = some (.ins (CRd K) dx []) ∧ x.length ≤ 1000 ∧ PlV K H v a b c d ∧
  Out (ckRead x f a b c d) (RzK K p H E) (∀ q H', H' p = some (.ins (CRd K) dx (rdf x q f)) → PlcAt K H' q a b c d → Keep p H H' → Q .non H')
def spStI : Sp := fun vs H Q E => ∃ (p dx : Addr) (x : Str) (v : V) (k : Int) (lr lc : Addr) (rs cs : List V) (cc : List (Int × Int × Int)) (a b c : Int), vs = [.ref p, .str x, v, .int k, .ref lr, .ref lc] ∧ H p = some (.ins (CSt K) dx []) ∧ x.length ≤ 1000 ∧ SumV K H v a b c ∧
  SqA K H lr rs ∧ SqA K H lc cs ∧ Cnds K H cs cc ∧ Out (ckStm rs.length cs.length x cc a b c k) (RzK K p H E) (∀ q r g H', H' p = some (.ins (CSt K) dx (stf x q k r g)) → StrAt K H' q a b c → SqT K H' r rs → SqT K H' g cs → Keep p H H' → Q .non H')
end
theorem CndAt.same {K : PySem.W.Frag} {H H' : Hp} {v : V} {t : Int × Int × Int} (h : CndAt K H v t) (s : Same H H') : CndAt K H' v t := by
  obtain ⟨r, C, dx, fs, q, e, h1, h2, h3, h4, h5⟩ := h
  exact ⟨r, C, dx, fs, q, e, s _ _ h1, h2, h3, h4, h5.same s⟩
theorem Cnds.same {K : PySem.W.Frag} {H H' : Hp} {cs : List V} {cc : List (Int × Int × Int)} (h : Cnds K H cs cc) (s : Same H H') : Cnds K H' cs cc := ⟨h.1, fun i v t h1 h2 => (h.2 i v t h1 h2).same s⟩
theorem RdAt.same {K : PySem.W.Frag} {H H' : Hp} {p : Addr} {x : Str} {a b c d f : Int} (h : RdAt K H p x a b c d f) (s : Same H H') : RdAt K H' p x a b c d f := by
  obtain ⟨dx, q, h, h2⟩ := h
  exact ⟨dx, q, s _ _ h, h2.same s⟩
theorem StmAt.same {K : PySem.W.Frag} {H H' : Hp} {p : Addr} {x : Str} {a b c k : Int} {rs cs : List V} (h : StmAt K H p x a b c k rs cs) (s : Same H H') : StmAt K H' p x a b c k rs cs := by
  obtain ⟨dx, q, r, g, h, h2, h3, h4⟩ := h
  exact ⟨dx, q, r, g, s _ _ h, h2.same s, SqT.same h3 s, SqT.same h4 s⟩
theorem norm {N : L2.St → Hp → Prop} {σ σ' : L2.St} {H : Hp} (e : σ = σ') (h : N σ' H) : N σ H := e ▸ h
theorem normG {i : Nat} {v : V} {σ σ' : L2.St} {H : Hp} {N : L2.St → Hp → Prop} (e : σ.set i (some v) = σ') (h : N σ' H) : gName i v σ H N := by
  subst e
  exact h
section
variable {P : Program} {w : World} {K : PySem.W.Frag} {mg : Str → Option Value} {base : Heap}
theorem scRead__init__ : FnScope ["self", "array", "place", "factor"] ["self", "array", "place", "factor"] (defScope iRead__init__) := ⟨rfl, rfl, rfl, by decide +kernel, rfl, by decide +kernel, by decide +kernel⟩
theorem ok_RdI {fd : FuncData} {kws : List (Str × V)} (F : FunD K "__init__" "Read.__init__" (defArgs iRead__init__) (defBody iRead__init__) (defScope iRead__init__) [] kws (He.ma K (CRd K) "__init__") fd) (T : PrTx K mg) (MB : Mx P w K mg base "BadNumber" ["self", "what", "number"] ["what", "number"])
    (dCkA : Dx P w K mg base 3 "check_name" ["array"] (spCkA K)) (dCkN : Dx P w K mg base 3 "check_number" ["what", "number", "low", "high"] (spCkN K)) (dPLike : Dn P w K mg base 6 "place_like" ["value"] (spPLike K)) (dCkP : Dx P w K mg base 5 "check_place" ["place"] (spCkP K)) :
    FnOk P w K mg base (L2.CX P w) 7 (He.ma K (CRd K) "__init__") fd ["self", "array", "place", "factor"] (spRdI K) := by
  refine F.ok scRead__init__ (fun vs H Q E h => ?_) (fun cdv A outer s H vs Q E hr h => ?_)
  · obtain ⟨p, dx, x, v, f, a, b, c, d, rfl, _⟩ := h
    rfl
  · obtain ⟨p, dx, x, v, f, a, b, c, d, rfl, hp, hx, hv, k⟩ := h
    obtain ⟨tTOP_ONE, hTOP_ONE⟩ := T.con ("TOP_ONE", 999) (by simp)
    refine ⟨_, (pss_cons (ps_expr (pe_dx (K := K) dCkA rfl hr (fun σ => passAt (takes_of rfl rfl rfl rfl) σ) (pa_cons (pv 1) pa_nil)))
      (pss_cons (ps_if (pt_cmpR op_eq (pv 3) pe_int (nomark _)) (pss_one (ps_raise rfl (takes_of rfl rfl rfl rfl) (pmk_err MB hr (pa_cons pe_str (pa_cons (pv 3) pa_nil))))) pss_nil)
      (pss_cons (ps_expr (pe_dx (K := K) dCkN rfl hr (fun σ => passAt (takes_of rfl rfl rfl rfl) σ) (pa_cons pe_str (pa_cons (pv 3) (pa_cons (pe_un un_neg (pe_glob (v := .int 999) rfl hTOP_ONE ⟨tTOP_ONE, rfl⟩)) (pa_cons (pe_glob (v := .int 999) rfl hTOP_ONE ⟨tTOP_ONE, rfl⟩) pa_nil))))))
      (pss_cons (ps_fld (pv 0) (pv 1) rfl)
      (pss_cons (ps_fld (pv 0) (pe_dn dPLike hr (pa_cons (pv 2) pa_nil)) rfl)
      (pss_cons (ps_fld (pv 0) (pv 3) rfl)
      (pss_one (ps_expr (pe_dx (K := K) dCkP rfl hr (fun σ => passAt (takes_of rfl rfl rfl rfl) σ) (pa_cons (pe_fld (pv 0) rfl) pa_nil)))))))))), ?_⟩
    refine ⟨_, rfl, x, rfl, hx, k.or (fun e z => z.rz (Keep.ofSame (Same.refl H))) fun k H1 s1 => ?_⟩
    have k1 : ∀ e, RzK K p H E e → Rz K H1 E e := fun e z => z.rz (Keep.ofSame s1)
    refine ⟨_, rfl, rfl, _, rfl, ?_⟩
    by_cases hf : f = 0
    · subst hf
      have bad := k1 _ (k.1 (.num "factor" 0) rfl)
      exact if_yes (decide_eq_true rfl) ⟨_, rfl, err_go (K := K) (x := "BadNumber") (fs := ["what", "number"]) (by show 2 ≤ 1000; decide) rfl fun d H' s hd => bad d H' s hd⟩
    rw [if_neg hf] at k
    refine if_no (decide_eq_false fun z => hf (V.int.inj z)) ?_
    refine ⟨_, rfl, _, rfl, _, _, _, _, rfl, Out.or (o1 := ckN "factor" f (-999) 999) k k1 fun k => ?_⟩
    refine ⟨_, rfl, _, rfl, p, _, dx, _, rfl, s1 _ _ hp, T.clR, T.nRA, pl0, ?_⟩
    have n1 : (putF "array" (V.str x) []).lookup ("straight" : Str) = none ∧ (putF "array" (V.str x) []).lookup ("i" : Str) = none := by
      rw [lookup_putF, if_neg (by decide +kernel), lookup_putF, if_neg (by decide +kernel)]
      exact ⟨rfl, rfl⟩
    have hv1 := (hv.same s1).up (s1 _ _ hp) (keep_upd1 (o := .ins (CRd K) dx (putF "array" (.str x) []))) rfl rfl
    refine ⟨_, rfl, v, a, b, c, d, rfl, hv1, fun q H2 s2 hq => ?_⟩
    have hp2 := s2 _ _ (upd_same (H := H1) (a := p))
    have kp2 : Keep p H H2 := keep_trans (keep_upd (Keep.ofSame s1)) s2
    refine ⟨_, rfl, p, _, dx, _, rfl, hp2, T.clR, T.nRP, pl pl0, ?_⟩
    have hq1 := hq.up hp2 (keep_upd1 (o := .ins (CRd K) dx (putF "place" (.ref q) (putF "array" (.str x) [])))) n1.1 n1.2
    refine ⟨_, rfl, _, rfl, p, _, dx, _, rfl, upd_same, T.clR, T.nRF, pl (pl pl0), ?_⟩
    have n2 : (putF "place" (V.ref q) (putF "array" (V.str x) [])).lookup ("straight" : Str) = none ∧ (putF "place" (V.ref q) (putF "array" (V.str x) [])).lookup ("i" : Str) = none := by
      rw [lookup_putF, if_neg (by decide +kernel), lookup_putF (f := "place"), if_neg (by decide +kernel)]
      exact n1
    have hq2 := hq1.up upd_same (keep_upd1 (o := .ins (CRd K) dx (rdf x q f))) n2.1 n2.2
    have kp3 : Keep p H (upd (upd H2 p (.ins (CRd K) dx (putF "place" (.ref q) (putF "array" (.str x) [])))) p (.ins (CRd K) dx (rdf x q f))) := keep_upd (keep_upd kp2)
    refine ⟨_, rfl, p, _, dx, _, _, rfl, upd_same, T.clR, T.nRP, rdf_p x q f, q, a, b, c, d, rfl, hq2, Out.end_ k (fun e z => z.rz kp3) fun k => ?_⟩
    exact k q _ upd_same hq2 kp3
end
end K28
set_option maxHeartbeats 4000000
namespace K28
open PySem PySem.Spec PyProof.Rows L2 Z
section
variable {P : Program} {w : World} {K : PySem.W.Frag} {mg : Str → Option Value} {base : Heap}
theorem nlk {f g : Str} {v : V} {fs : List (Str × V)} (h : ¬ g = f) (k : fs.lookup g = none) : (putF f v fs).lookup g = none := by
  rw [lookup_putF, if_neg h]
  exact k
theorem cnd_at {K : PySem.W.Frag} {H : Hp} {cs : List V} {cc : List (Int × Int × Int)} (h : Cnds K H cs cc) {i : Nat} {v : V} (hv : cs[i]? = some v) : ∃ t, cc[i]? = some t ∧ CndAt K H v t ∧ cc.drop i = t :: cc.drop (i + 1) := by
  have hi : i < cs.length := by
    rw [List.getElem?_eq_some_iff] at hv
    exact hv.1
  have hj : i < cc.length := by rw [← h.1]; exact hi
  refine ⟨cc[i], List.getElem?_eq_getElem hj, h.2 i v _ hv (List.getElem?_eq_getElem hj), ?_⟩
  exact List.drop_eq_getElem_cons hj
theorem scStatement__init__ : FnScope ["self", "array", "cell", "constant", "reads", "conditions", "condition"] ["self", "array", "cell", "constant", "reads", "conditions"] (defScope iStatement__init__) := ⟨rfl, rfl, rfl, by decide +kernel, rfl, by decide +kernel, by decide +kernel⟩
theorem ok_StI {fd : FuncData} {kws : List (Str × V)} (F : FunD K "__init__" "Statement.__init__" (defArgs iStatement__init__) (defBody iStatement__init__) (defScope iStatement__init__) [] kws (He.ma K (CSt K) "__init__") fd) (T : PrTx K mg)
    (dCkM : Dx P w K mg base 3 "check_many" ["what", "things", "most"] (spCkM K)) (dCkA : Dx P w K mg base 3 "check_name" ["array"] (spCkA K)) (dCkN : Dx P w K mg base 3 "check_number" ["what", "number", "low", "high"] (spCkN K))
    (dCkS : Dx P w K mg base 4 "check_sum" ["straight"] (spCkS K)) (dLike : Dn P w K mg base 3 "straight_like" ["value"] (spLike K)) :
    FnOk P w K mg base (L2.CX P w) 5 (He.ma K (CSt K) "__init__") fd ["self", "array", "cell", "constant", "reads", "conditions"] (spStI K) := by
  refine F.ok scStatement__init__ (fun vs H Q E h => ?_) (fun cdv A outer s H vs Q E hr h => ?_)
  · obtain ⟨p, dx, x, v, k, lr, lc, rs, cs, cc, a, b, c, rfl, _⟩ := h
    rfl
  · obtain ⟨p, dx, x, v, k, lr, lc, rs, cs, cc, a, b, c, rfl, hp, hx, hv, hlr, hlc, hcc, kk⟩ := h
    obtain ⟨tTOP_ONE, hTOP_ONE⟩ := T.con ("TOP_ONE", 999) (by simp)
    obtain ⟨tMOST_READS, hMOST_READS⟩ := T.con ("MOST_READS", 3) (by simp)
    obtain ⟨tMOST_CONDITIONS, hMOST_CONDITIONS⟩ := T.con ("MOST_CONDITIONS", 3) (by simp)
    refine ⟨_, (pss_cons (ps_expr (pe_dx (K := K) dCkM rfl hr (fun σ => passAt (takes_of rfl rfl rfl rfl) σ) (pa_cons pe_str (pa_cons (pv 4) (pa_cons (pe_glob (v := .int 3) rfl hMOST_READS ⟨tMOST_READS, rfl⟩) pa_nil)))))
      (pss_cons (ps_expr (pe_dx (K := K) dCkM rfl hr (fun σ => passAt (takes_of rfl rfl rfl rfl) σ) (pa_cons pe_str (pa_cons (pv 5) (pa_cons (pe_glob (v := .int 3) rfl hMOST_CONDITIONS ⟨tMOST_CONDITIONS, rfl⟩) pa_nil)))))
      (pss_cons (ps_expr (pe_dx (K := K) dCkA rfl hr (fun σ => passAt (takes_of rfl rfl rfl rfl) σ) (pa_cons (pv 1) pa_nil)))
      (pss_cons (ps_for (passes_of rfl) rfl (pi_any (pv 5)) (pg_name (i := 6) scStatement__init__.nd rfl (.inl rfl)) (pss_one (ps_expr (pe_dx (K := K) dCkS rfl hr (fun σ => passAt (takes_of rfl rfl rfl rfl) σ) (pa_cons (pe_fld (pv 6) rfl) pa_nil)))))
      (pss_cons (ps_fld (pv 0) (pv 1) rfl)
      (pss_cons (ps_fld (pv 0) (pe_dn dLike hr (pa_cons (pv 2) pa_nil)) rfl)
      (pss_cons (ps_expr (pe_dx (K := K) dCkS rfl hr (fun σ => passAt (takes_of rfl rfl rfl rfl) σ) (pa_cons (pe_fld (pv 0) rfl) pa_nil)))
      (pss_cons (ps_expr (pe_dx (K := K) dCkN rfl hr (fun σ => passAt (takes_of rfl rfl rfl rfl) σ) (pa_cons pe_str (pa_cons (pv 3) (pa_cons (pe_un un_neg (pe_glob (v := .int 999) rfl hTOP_ONE ⟨tTOP_ONE, rfl⟩)) (pa_cons (pe_glob (v := .int 999) rfl hTOP_ONE ⟨tTOP_ONE, rfl⟩) pa_nil))))))
      (pss_cons (ps_fld (pv 0) (pv 3) rfl)
      (pss_cons (ps_fld (pv 0) (pe_callTy call_tuple_of (by rfl) T.tuple (by decide +kernel) (pa_cons (pv 4) pa_nil)) rfl)
      (pss_one (ps_fld (pv 0) (pe_callTy call_tuple_of (by rfl) T.tuple (by decide +kernel) (pa_cons (pv 5) pa_nil)) rfl)))))))))))), ?_⟩
    have k0 : ∀ e, RzK K p H E e → Rz K H E e := fun e z => z.rz (Keep.ofSame (Same.refl H))
    refine ⟨_, rfl, _, _, _, _, rfl, hlr, kk.or k0 fun kk => ?_⟩
    refine ⟨_, rfl, _, _, _, _, rfl, hlc, kk.or k0 fun kk => ?_⟩
    refine ⟨_, rfl, x, rfl, hx, kk.or k0 fun kk H1 s1 => ?_⟩
    have k1 : ∀ e, RzK K p H E e → Rz K H1 E e := fun e z => z.rz (Keep.ofSame s1)
    have hcc1 := hcc.same s1
    refine ⟨_, rfl, lc, rfl, ?_⟩
    refine for_any (xs := cs) (SqA.same hlc s1) (fun i σ H' => ∃ v6 : Option V, σ = [some (.ref p), some (.str x), some v, some (.int k), some (.ref lr), some (.ref lc), v6] ∧ H' = H1 ∧
      Out ((ckCs (cc.drop i)).or ((ckS a b c).or (ckN "constant" k (-999) 999))) (RzK K p H E) (∀ (q r g : Addr) (H' : Hp), H' p = some (.ins (CSt K) dx (stf x q k r g)) → StrAt K H' q a b c → SqT K H' r rs → SqT K H' g cs → Keep p H H' → Q .non H')) ⟨_, rfl, rfl, kk⟩ (fun i σ' H' ⟨_, _, e, _⟩ => e ▸ Same.refl H1) ?_ ?_
    · rintro i y σ H' hy ⟨v6, rfl, rfl, kk⟩
      obtain ⟨t, ht, ⟨r, C, dy, fs, q, rfl, hr1, cl, na, lk, hq⟩, hd⟩ := cnd_at hcc1 hy
      rw [hd] at kk
      have e : (ckCs (t :: cc.drop (i + 1))).or ((ckS a b c).or (ckN "constant" k (-999) 999)) = (ckS t.1 t.2.1 t.2.2).or ((ckCs (cc.drop (i + 1))).or ((ckS a b c).or (ckN "constant" k (-999) 999))) := by
        show ((ckS t.1 t.2.1 t.2.2).or (ckCs (cc.drop (i + 1)))).or _ = _
        rw [Option.or_assoc]
      rw [e] at kk
      refine normG (σ' := [some (.ref p), some (.str x), some v, some (.int k), some (.ref lr), some (.ref lc), some (.ref r)]) rfl ?_
      exact ⟨_, rfl, r, C, dy, _, _, rfl, hr1, cl, na, lk, q, _, _, _, rfl, hq, kk.or k1 fun kk => ⟨_, rfl, rfl, kk⟩⟩
    rintro σ H' ⟨v6, rfl, rfl, kk⟩
    have e0 : cc.drop cs.length = [] := by rw [hcc.1, List.drop_length]
    rw [e0] at kk
    rw [show (ckCs ([] : List (Int × Int × Int))).or ((ckS a b c).or (ckN "constant" k (-999) 999)) = (ckS a b c).or (ckN "constant" k (-999) 999) from rfl] at kk
    refine ⟨_, rfl, _, rfl, p, _, dx, _, rfl, s1 _ _ hp, T.clM, T.nMA, pl0, ?_⟩
    have n1 : (putF "array" (V.str x) []).lookup ("i" : Str) = none := nlk (by decide +kernel) rfl
    have hv1 := (hv.same s1).up (s1 _ _ hp) (keep_upd1 (o := .ins (CSt K) dx (putF "array" (.str x) []))) rfl
    have kp1 : Keep p H (upd H' p (.ins (CSt K) dx (putF "array" (.str x) []))) := keep_upd (Keep.ofSame s1)
    refine ⟨_, rfl, v, a, b, c, rfl, hv1, fun q H2 s2 hq => ?_⟩
    have hp2 := s2 _ _ (upd_same (H := H') (a := p))
    have kp2 : Keep p H H2 := keep_trans kp1 s2
    refine ⟨_, rfl, p, _, dx, _, rfl, hp2, T.clM, T.nMC, pl pl0, ?_⟩
    have hq1 := hq.up hp2 (keep_upd1 (o := .ins (CSt K) dx (putF "cell" (.ref q) (putF "array" (.str x) [])))) n1
    have kp3 : Keep p H (upd H2 p (.ins (CSt K) dx (putF "cell" (.ref q) (putF "array" (.str x) [])))) := keep_upd kp2
    have lkc : (putF "cell" (V.ref q) (putF "array" (V.str x) [])).lookup ("cell" : Str) = some (.ref q) := by rw [lookup_putF, if_pos rfl]
    refine ⟨_, rfl, p, _, dx, _, _, rfl, upd_same, T.clM, T.nMC, lkc, q, a, b, c, rfl, hq1, kk.or (fun e z => z.rz kp3) fun kk => ?_⟩
    refine ⟨_, rfl, _, rfl, _, _, _, _, rfl, Out.end_ kk (fun e z => z.rz kp3) fun kk => ?_⟩
    refine ⟨_, rfl, _, rfl, p, _, dx, _, rfl, upd_same, T.clM, T.nMK, pl (pl pl0), ?_⟩
    have n2 : (putF "cell" (V.ref q) (putF "array" (V.str x) [])).lookup ("i" : Str) = none := nlk (by decide +kernel) n1
    have hq2 := hq1.up upd_same (keep_upd1 (o := .ins (CSt K) dx (putF "constant" (.int k) (putF "cell" (.ref q) (putF "array" (.str x) []))))) n2
    have n3 : (putF "constant" (V.int k) (putF "cell" (V.ref q) (putF "array" (V.str x) []))).lookup ("i" : Str) = none := nlk (by decide +kernel) n2
    obtain ⟨H3, eH3⟩ : ∃ L, L = upd (upd H2 p (.ins (CSt K) dx (putF "cell" (.ref q) (putF "array" (.str x) [])))) p (.ins (CSt K) dx (putF "constant" (.int k) (putF "cell" (.ref q) (putF "array" (.str x) [])))) := ⟨_, rfl⟩
    have kp4 : Keep p H H3 := by rw [eH3]; exact keep_upd kp3
    have hp3 : H3 p = some (.ins (CSt K) dx (putF "constant" (.int k) (putF "cell" (.ref q) (putF "array" (.str x) [])))) := by rw [eH3]; exact upd_same
    rw [← eH3] at hq2 ⊢
    have tail : ∀ (r : Addr) (H4 : Hp), Same H3 H4 → SqT K H4 r rs → H4 p = some (.ins (CSt K) dx (putF "constant" (.int k) (putF "cell" (.ref q) (putF "array" (.str x) [])))) ∧
        SqA K (upd H4 p (.ins (CSt K) dx (putF "reads" (.ref r) (putF "constant" (.int k) (putF "cell" (.ref q) (putF "array" (.str x) [])))))) lc cs ∧
        ∀ (g : Addr) (H6 : Hp), Same (upd H4 p (.ins (CSt K) dx (putF "reads" (.ref r) (putF "constant" (.int k) (putF "cell" (.ref q) (putF "array" (.str x) [])))))) H6 → SqT K H6 g cs →
          H6 p = some (.ins (CSt K) dx (putF "reads" (.ref r) (putF "constant" (.int k) (putF "cell" (.ref q) (putF "array" (.str x) []))))) ∧ Q .non (upd H6 p (.ins (CSt K) dx (stf x q k r g))) := by
      intro r H4 s4 hr4
      have hp4 := s4 _ _ hp3
      have k45 : Keep p H4 (upd H4 p (.ins (CSt K) dx (putF "reads" (.ref r) (putF "constant" (.int k) (putF "cell" (.ref q) (putF "array" (.str x) [])))))) := keep_upd1
      have kp5 := keep_trans2 (keep_trans kp4 s4) k45
      refine ⟨hp4, SqA.up hlc hp kp5, fun g H6 s6 hg6 => ?_⟩
      have hp6 := s6 _ _ upd_same
      have k67 : Keep p H6 (upd H6 p (.ins (CSt K) dx (stf x q k r g))) := keep_upd1
      have hr5 := SqT.up hr4 hp4 k45
      have hq5 := (hq2.same s4).up hp4 k45 n3
      exact ⟨hp6, kk q r g _ upd_same ((hq5.same s6).up hp6 k67 (nlk (by decide +kernel) n3)) (SqT.up (SqT.same hr5 s6) hp6 k67) (SqT.up hg6 hp6 k67) (keep_trans2 (keep_trans kp5 s6) k67)⟩
    rcases SqA.up hlr hp kp4 with hL | hL
    · refine ⟨_, rfl, lr, rs, rfl, .inl ⟨hL, fun r hr => ?_⟩⟩
      obtain ⟨t1, t2, t3⟩ := tail r _ (Same.new (.tup rs) (Same.refl H3) hr) (SqT.of upd_same)
      refine ⟨_, rfl, p, _, dx, _, rfl, t1, T.clM, T.nMR, pl (pl (pl pl0)), ?_⟩
      rcases t2 with hC | hC
      · refine ⟨_, rfl, lc, cs, rfl, .inl ⟨hC, fun g hg => ?_⟩⟩
        obtain ⟨t4, t5⟩ := t3 g _ (Same.new (.tup cs) (Same.refl _) hg) (SqT.of upd_same)
        exact ⟨_, rfl, p, _, dx, _, rfl, t4, T.clM, T.nMG, pl (pl (pl (pl pl0))), t5⟩
      · obtain ⟨t4, t5⟩ := t3 lc _ (Same.refl _) hC
        exact ⟨_, rfl, lc, cs, rfl, .inr ⟨hC, _, rfl, p, _, dx, _, rfl, t4, T.clM, T.nMG, pl (pl (pl (pl pl0))), t5⟩⟩
    · obtain ⟨t1, t2, t3⟩ := tail lr _ (Same.refl H3) hL
      refine ⟨_, rfl, lr, rs, rfl, .inr ⟨hL, ?_⟩⟩
      refine ⟨_, rfl, p, _, dx, _, rfl, t1, T.clM, T.nMR, pl (pl (pl pl0)), ?_⟩
      rcases t2 with hC | hC
      · refine ⟨_, rfl, lc, cs, rfl, .inl ⟨hC, fun g hg => ?_⟩⟩
        obtain ⟨t4, t5⟩ := t3 g _ (Same.new (.tup cs) (Same.refl _) hg) (SqT.of upd_same)
        exact ⟨_, rfl, p, _, dx, _, rfl, t4, T.clM, T.nMG, pl (pl (pl (pl pl0))), t5⟩
      · obtain ⟨t4, t5⟩ := t3 lc _ (Same.refl _) hC
        exact ⟨_, rfl, lc, cs, rfl, .inr ⟨hC, _, rfl, p, _, dx, _, rfl, t4, T.clM, T.nMG, pl (pl (pl (pl pl0))), t5⟩⟩
end
def lpf (lo hi st : Addr) (S : Int) (dn : Bool) : List (Str × V) := putF "down" (.bl dn) (putF "step" (.int S) (putF "statements" (.ref st) (putF "high" (.ref hi) (putF "low" (.ref lo) []))))
theorem n_lh : ¬ (("low" : Str) = "high") := by decide +kernel
theorem n_lt : ¬ (("low" : Str) = "statements") := by decide +kernel
theorem n_ls : ¬ (("low" : Str) = "step") := by decide +kernel
theorem n_ld : ¬ (("low" : Str) = "down") := by decide +kernel
theorem n_ht : ¬ (("high" : Str) = "statements") := by decide +kernel
theorem n_hs : ¬ (("high" : Str) = "step") := by decide +kernel
theorem n_hd : ¬ (("high" : Str) = "down") := by decide +kernel
theorem n_ts : ¬ (("statements" : Str) = "step") := by decide +kernel
theorem n_td : ¬ (("statements" : Str) = "down") := by decide +kernel
theorem n_sd : ¬ (("step" : Str) = "down") := by decide +kernel
theorem lp_lo (lo hi st : Addr) (S : Int) (dn : Bool) : (lpf lo hi st S dn).lookup ("low" : Str) = some (.ref lo) := by
  unfold lpf
  rw [lookup_putF, if_neg n_ld, lookup_putF, if_neg n_ls, lookup_putF, if_neg n_lt, lookup_putF, if_neg n_lh, lookup_putF, if_pos rfl]
theorem lp_hi (lo hi st : Addr) (S : Int) (dn : Bool) : (lpf lo hi st S dn).lookup ("high" : Str) = some (.ref hi) := by
  unfold lpf
  rw [lookup_putF, if_neg n_hd, lookup_putF, if_neg n_hs, lookup_putF, if_neg n_ht, lookup_putF, if_pos rfl]
theorem lp_tt (lo hi st : Addr) (S : Int) (dn : Bool) : (lpf lo hi st S dn).lookup ("statements" : Str) = some (.ref st) := by
  unfold lpf
  rw [lookup_putF, if_neg n_td, lookup_putF, if_neg n_ts, lookup_putF, if_pos rfl]
theorem lp_st (lo hi st : Addr) (S : Int) (dn : Bool) : (lpf lo hi st S dn).lookup ("step" : Str) = some (.int S) := by
  unfold lpf
  rw [lookup_putF, if_neg n_sd, lookup_putF, if_pos rfl]
theorem lp_dn (lo hi st : Addr) (S : Int) (dn : Bool) : (lpf lo hi st S dn).lookup ("down" : Str) = some (.bl dn) := by
  unfold lpf
  rw [lookup_putF, if_pos rfl]
/-- a place's four numbers -/
abbrev P4 : Type := Int × Int × Int × Int
section
variable (K : PySem.W.Frag)
def Pl4 (H : Hp) (q : Addr) (t : P4) : Prop := PlcAt K H q t.1 t.2.1 t.2.2.1 t.2.2.2
def LpAt (H : Hp) (p : Addr) (t u : P4) (S : Int) (dn : Bool) (xs : List V) : Prop := ∃ dx lo hi st, H p = some (.ins (CL K) dx (lpf lo hi st S dn)) ∧ Pl4 K H lo t ∧ Pl4 K H hi u ∧ SqT K H st xs
def ckLp (m S : Int) (t u : P4) : Option Er := ckLoop m S t.1 t.2.1 t.2.2.1 t.2.2.2 u.1 u.2.1 u.2.2.1 u.2.2.2
def spLpI : Sp := fun vs H Q E => ∃ (p dx : Addr) (v1 v2 : V) (l : Addr) (xs : List V) (t u : P4) (S : Int) (dn : Bool), vs = [.ref p, v1, v2, .ref l, .int S, .bl dn] ∧ H p = some (.ins (CL K) dx []) ∧ PlV K H v1 t.1 t.2.1 t.2.2.1 t.2.2.2 ∧ PlV K H v2 u.1 u.2.1 u.2.2.1 u.2.2.2 ∧ SqA K H l xs ∧
  Out (ckLp xs.length S t u) (RzK K p H E) (∀ lo hi st H', H' p = some (.ins (CL K) dx (lpf lo hi st S dn)) → Pl4 K H' lo t → Pl4 K H' hi u → SqT K H' st xs → Keep p H H' → Q .non H')
end
theorem LpAt.same {K : PySem.W.Frag} {H H' : Hp} {p : Addr} {t u : P4} {S : Int} {dn : Bool} {xs : List V} (h : LpAt K H p t u S dn xs) (s : Same H H') : LpAt K H' p t u S dn xs := by
  obtain ⟨dx, lo, hi, st, h1, h2, h3, h4⟩ := h
  exact ⟨dx, lo, hi, st, s _ _ h1, PlcAt.same h2 s, PlcAt.same h3 s, SqT.same h4 s⟩
section
variable {P : Program} {w : World} {K : PySem.W.Frag} {mg : Str → Option Value} {base : Heap}
theorem scLoop__init__ : FnScope ["self", "low", "high", "statements", "step", "down"] ["self", "low", "high", "statements", "step", "down"] (defScope iLoop__init__) := ⟨rfl, rfl, rfl, by decide +kernel, rfl, by decide +kernel, by decide +kernel⟩
theorem ok_LpI {fd : FuncData} {kws : List (Str × V)} (F : FunD K "__init__" "Loop.__init__" (defArgs iLoop__init__) (defBody iLoop__init__) (defScope iLoop__init__) [] kws (He.ma K (CL K) "__init__") fd) (T : PrTx K mg) (MB : Mx P w K mg base "BadNumber" ["self", "what", "number"] ["what", "number"])
    (dCkM : Dx P w K mg base 3 "check_many" ["what", "things", "most"] (spCkM K)) (dCkN : Dx P w K mg base 3 "check_number" ["what", "number", "low", "high"] (spCkN K)) (dPLike : Dn P w K mg base 6 "place_like" ["value"] (spPLike K)) (dCkR : Dx P w K mg base 4 "check_range_place" ["place"] (spCkR K)) :
    FnOk P w K mg base (L2.CX P w) 7 (He.ma K (CL K) "__init__") fd ["self", "low", "high", "statements", "step", "down"] (spLpI K) := by
  refine F.ok scLoop__init__ (fun vs H Q E h => ?_) (fun cdv A outer s H vs Q E hr h => ?_)
  · obtain ⟨p, dx, v1, v2, l, xs, t, u, S, dn, rfl, _⟩ := h
    rfl
  · obtain ⟨p, dx, v1, v2, l, xs, ⟨a, c, d, e⟩, ⟨a2, c2, d2, e2⟩, S, dn, rfl, hp, hv1, hv2, hl, kk⟩ := h
    obtain ⟨tTOP_STEP, hTOP_STEP⟩ := T.con ("TOP_STEP", 16) (by simp)
    obtain ⟨tMOST_STATEMENTS, hMOST_STATEMENTS⟩ := T.con ("MOST_STATEMENTS", 16) (by simp)
    refine ⟨_, (pss_cons (ps_expr (pe_dx (K := K) dCkM rfl hr (fun σ => passAt (takes_of rfl rfl rfl rfl) σ) (pa_cons pe_str (pa_cons (pv 3) (pa_cons (pe_glob (v := .int 16) rfl hMOST_STATEMENTS ⟨tMOST_STATEMENTS, rfl⟩) pa_nil)))))
      (pss_cons (ps_expr (pe_dx (K := K) dCkN rfl hr (fun σ => passAt (takes_of rfl rfl rfl rfl) σ) (pa_cons pe_str (pa_cons (pv 4) (pa_cons pe_int (pa_cons (pe_glob (v := .int 16) rfl hTOP_STEP ⟨tTOP_STEP, rfl⟩) pa_nil))))))
      (pss_cons (ps_fld (pv 0) (pe_dn dPLike hr (pa_cons (pv 1) pa_nil)) rfl)
      (pss_cons (ps_fld (pv 0) (pe_dn dPLike hr (pa_cons (pv 2) pa_nil)) rfl)
      (pss_cons (ps_expr (pe_dx (K := K) dCkR rfl hr (fun σ => passAt (takes_of rfl rfl rfl rfl) σ) (pa_cons (pe_fld (pv 0) rfl) pa_nil)))
      (pss_cons (ps_expr (pe_dx (K := K) dCkR rfl hr (fun σ => passAt (takes_of rfl rfl rfl rfl) σ) (pa_cons (pe_fld (pv 0) rfl) pa_nil)))
      (pss_cons (ps_if (PW.pt (pw_and (pt_cmpR op_gt (pv 4) pe_int (nomark _)) (pw_and1 (pt_cmpR op_gt (pe_fld (pe_fld (pv 0) rfl) rfl) pe_int (nomark _))))) (pss_one (ps_raise rfl (takes_of rfl rfl rfl rfl) (pmk_err MB hr (pa_cons pe_str (pa_cons (pv 4) pa_nil))))) pss_nil)
      (pss_cons (ps_fld (pv 0) (pe_callTy call_tuple_of (by rfl) T.tuple (by decide +kernel) (pa_cons (pv 3) pa_nil)) rfl)
      (pss_cons (ps_fld (pv 0) (pv 4) rfl)
      (pss_one (ps_fld (pv 0) (pv 5) rfl))))))))))), ?_⟩
    have k0 : ∀ e, RzK K p H E e → Rz K H E e := fun e z => z.rz (Keep.ofSame (Same.refl H))
    refine ⟨_, rfl, _, _, _, _, rfl, hl, kk.or k0 fun kk => ?_⟩
    refine ⟨_, rfl, _, _, _, _, rfl, kk.or k0 fun kk => ?_⟩
    refine ⟨_, rfl, v1, _, _, _, _, rfl, hv1, fun lo H1 s1 hlo => ?_⟩
    have hp1 := s1 _ _ hp
    refine ⟨_, rfl, p, _, dx, _, rfl, hp1, T.clL, T.nLo, pl0, ?_⟩
    obtain ⟨H2, eH2⟩ : ∃ L, L = upd H1 p (.ins (CL K) dx (putF "low" (.ref lo) [])) := ⟨_, rfl⟩
    have k12 : Keep p H1 H2 := by rw [eH2]; exact keep_upd1
    have hp2 : H2 p = some (.ins (CL K) dx (putF "low" (.ref lo) [])) := by rw [eH2]; exact upd_same
    rw [← eH2]
    have n1 : (putF "low" (V.ref lo) []).lookup ("straight" : Str) = none ∧ (putF "low" (V.ref lo) []).lookup ("i" : Str) = none := ⟨nlk (by decide +kernel) rfl, nlk (by decide +kernel) rfl⟩
    refine ⟨_, rfl, v2, _, _, _, _, rfl, (hv2.same s1).up hp1 k12 rfl rfl, fun hi H3 s3 hhi => ?_⟩
    have hp3 := s3 _ _ hp2
    have hlo3 := (hlo.up hp1 k12 rfl rfl).same s3
    refine ⟨_, rfl, p, _, dx, _, rfl, hp3, T.clL, T.nHi, pl pl0, ?_⟩
    obtain ⟨H4, eH4⟩ : ∃ L, L = upd H3 p (.ins (CL K) dx (putF "high" (.ref hi) (putF "low" (.ref lo) []))) := ⟨_, rfl⟩
    have k34 : Keep p H3 H4 := by rw [eH4]; exact keep_upd1
    have hp4 : H4 p = some (.ins (CL K) dx (putF "high" (.ref hi) (putF "low" (.ref lo) []))) := by rw [eH4]; exact upd_same
    rw [← eH4]
    have hlo4 := hlo3.up hp3 k34 n1.1 n1.2
    have hhi4 := hhi.up hp3 k34 n1.1 n1.2
    have kp4 : Keep p H H4 := keep_trans2 (keep_trans (keep_trans2 (Keep.ofSame s1) k12) s3) k34
    have k4 : ∀ e, RzK K p H E e → Rz K H4 E e := fun e z => z.rz kp4
    have ll : (putF "high" (V.ref hi) (putF "low" (V.ref lo) [])).lookup ("low" : Str) = some (.ref lo) := by
      rw [lookup_putF, if_neg n_lh, lookup_putF, if_pos rfl]
    have lh : (putF "high" (V.ref hi) (putF "low" (V.ref lo) [])).lookup ("high" : Str) = some (.ref hi) := by
      rw [lookup_putF, if_pos rfl]
    refine ⟨_, rfl, p, _, dx, _, _, rfl, hp4, T.clL, T.nLo, ll, lo, _, _, _, _, rfl, hlo4, kk.or k4 fun kk => ?_⟩
    refine ⟨_, rfl, p, _, dx, _, _, rfl, hp4, T.clL, T.nHi, lh, hi, _, _, _, _, rfl, hhi4, kk.or k4 fun kk => ?_⟩
    obtain ⟨dq, rq, hq1, _⟩ := id hlo4
    have n2 : (putF "high" (V.ref hi) (putF "low" (V.ref lo) [])).lookup ("straight" : Str) = none ∧ (putF "high" (V.ref hi) (putF "low" (V.ref lo) [])).lookup ("i" : Str) = none := ⟨nlk (by decide +kernel) n1.1, nlk (by decide +kernel) n1.2⟩
    have fin : ∀ (h : ¬ (1 < S ∧ 1 < e)) (t : Addr) (H5 : Hp), Same H4 H5 → SqT K H5 t xs → H5 p = some (.ins (CL K) dx (putF "high" (.ref hi) (putF "low" (.ref lo) []))) ∧ Q .non (upd (upd (upd H5 p (.ins (CL K) dx (putF "statements" (.ref t) (putF "high" (.ref hi) (putF "low" (.ref lo) []))))) p (.ins (CL K) dx (putF "step" (.int S) (putF "statements" (.ref t) (putF "high" (.ref hi) (putF "low" (.ref lo) [])))))) p (.ins (CL K) dx (lpf lo hi t S dn))) := by
      intro h t H5 s5 ht
      have kk2 := kk.2 (if_neg h)
      have hp5 := s5 _ _ hp4
      have kp5 : Keep p H5 (upd (upd (upd H5 p (.ins (CL K) dx (putF "statements" (.ref t) (putF "high" (.ref hi) (putF "low" (.ref lo) []))))) p (.ins (CL K) dx (putF "step" (.int S) (putF "statements" (.ref t) (putF "high" (.ref hi) (putF "low" (.ref lo) [])))))) p (.ins (CL K) dx (lpf lo hi t S dn))) := keep_upd (keep_upd keep_upd1)
      exact ⟨hp5, kk2 lo hi t _ upd_same ((hlo4.same s5).up hp5 kp5 n2.1 n2.2) ((hhi4.same s5).up hp5 kp5 n2.1 n2.2) (SqT.up ht hp5 kp5) (keep_trans2 (keep_trans kp4 s5) kp5)⟩
    refine ⟨_, rfl, _, _, rfl, rfl, _, rfl, ?_⟩
    by_cases hS : 1 < S
    · rw [decide_eq_true hS]
      refine iteT ⟨_, rfl, p, _, dx, _, _, rfl, hp4, T.clL, T.nLo, ll, lo, _, dq, _, _, rfl, hq1, T.plc.clP, T.plc.nD, pf_d _ _, _, _, rfl, rfl, _, rfl, ?_⟩
      by_cases he : 1 < e
      · rw [decide_eq_true he]
        have bad := k4 _ (kk.1 _ (if_pos ⟨hS, he⟩))
        exact iteT ⟨_, rfl, err_go (K := K) (x := "BadNumber") (fs := ["what", "number"]) (by show 2 ≤ 1000; decide) rfl fun d H' s hd => bad d H' s hd⟩
      · rw [decide_eq_false he]
        refine iteF ?_
        rcases SqA.up hl hp kp4 with hL | hL
        · refine ⟨_, rfl, l, xs, rfl, .inl ⟨hL, fun t ht => ?_⟩⟩
          obtain ⟨t1, t2⟩ := fin (fun z => he z.2) t _ (Same.new (.tup xs) (Same.refl H4) ht) (SqT.of upd_same)
          refine ⟨_, rfl, p, _, dx, _, rfl, t1, T.clL, T.nSt, pl (pl pl0), ?_⟩
          refine ⟨_, rfl, _, rfl, p, _, dx, _, rfl, upd_same, T.clL, T.nSp, pl (pl (pl pl0)), ?_⟩
          exact ⟨_, rfl, _, rfl, p, _, dx, _, rfl, upd_same, T.clL, T.nDn, pl (pl (pl (pl pl0))), t2⟩
        · obtain ⟨t1, t2⟩ := fin (fun z => he z.2) l _ (Same.refl H4) hL
          refine ⟨_, rfl, l, xs, rfl, .inr ⟨hL, ?_⟩⟩
          refine ⟨_, rfl, p, _, dx, _, rfl, t1, T.clL, T.nSt, pl (pl pl0), ?_⟩
          refine ⟨_, rfl, _, rfl, p, _, dx, _, rfl, upd_same, T.clL, T.nSp, pl (pl (pl pl0)), ?_⟩
          exact ⟨_, rfl, _, rfl, p, _, dx, _, rfl, upd_same, T.clL, T.nDn, pl (pl (pl (pl pl0))), t2⟩
    · rw [decide_eq_false hS]
      refine iteF ?_
      rcases SqA.up hl hp kp4 with hL | hL
      · refine ⟨_, rfl, l, xs, rfl, .inl ⟨hL, fun t ht => ?_⟩⟩
        obtain ⟨t1, t2⟩ := fin (fun z => hS z.1) t _ (Same.new (.tup xs) (Same.refl H4) ht) (SqT.of upd_same)
        refine ⟨_, rfl, p, _, dx, _, rfl, t1, T.clL, T.nSt, pl (pl pl0), ?_⟩
        refine ⟨_, rfl, _, rfl, p, _, dx, _, rfl, upd_same, T.clL, T.nSp, pl (pl (pl pl0)), ?_⟩
        exact ⟨_, rfl, _, rfl, p, _, dx, _, rfl, upd_same, T.clL, T.nDn, pl (pl (pl (pl pl0))), t2⟩
      · obtain ⟨t1, t2⟩ := fin (fun z => hS z.1) l _ (Same.refl H4) hL
        refine ⟨_, rfl, l, xs, rfl, .inr ⟨hL, ?_⟩⟩
        refine ⟨_, rfl, p, _, dx, _, rfl, t1, T.clL, T.nSt, pl (pl pl0), ?_⟩
        refine ⟨_, rfl, _, rfl, p, _, dx, _, rfl, upd_same, T.clL, T.nSp, pl (pl (pl pl0)), ?_⟩
        exact ⟨_, rfl, _, rfl, p, _, dx, _, rfl, upd_same, T.clL, T.nDn, pl (pl (pl (pl pl0))), t2⟩
end
end K28
set_option maxHeartbeats 4000000
namespace K28
open PySem PySem.Spec PyProof.Rows L2 Z
section
variable (K : PySem.W.Frag)
def RdN (H : Hp) (v : V) (y : Str) : Prop := ∃ p dx fs, v = .ref p ∧ H p = some (.ins (CRd K) dx fs) ∧ fs.lookup ("array" : Str) = some (.str y)
def RdNs (H : Hp) (vs : List V) (ys : List Str) : Prop := vs.length = ys.length ∧ ∀ (i : Nat) (v : V) (y : Str), vs[i]? = some v → ys[i]? = some y → RdN K H v y
def StN (H : Hp) (v : V) (m : List Str) : Prop := ∃ p dx fs x r rs ys, v = .ref p ∧ H p = some (.ins (CSt K) dx fs) ∧ fs.lookup ("array" : Str) = some (.str x) ∧ fs.lookup ("reads" : Str) = some (.ref r) ∧ SqT K H r rs ∧ RdNs K H rs ys ∧ m = x :: ys
def StNs (H : Hp) (vs : List V) (ms : List (List Str)) : Prop := vs.length = ms.length ∧ ∀ (i : Nat) (v : V) (m : List Str), vs[i]? = some v → ms[i]? = some m → StN K H v m
def LpN (H : Hp) (v : V) (m : List Str) : Prop := ∃ p dx fs st xs ms, v = .ref p ∧ H p = some (.ins (CL K) dx fs) ∧ fs.lookup ("statements" : Str) = some (.ref st) ∧ SqT K H st xs ∧ StNs K H xs ms ∧ m = ms.flatten
def LpNs (H : Hp) (vs : List V) (ms : List (List Str)) : Prop := vs.length = ms.length ∧ ∀ (i : Nat) (v : V) (m : List Str), vs[i]? = some v → ms[i]? = some m → LpN K H v m
def spArr : Sp := fun vs H Q _ => ∃ (l : Addr) (xs : List V) (ms : List (List Str)), vs = [.ref l] ∧ SqT K H l xs ∧ LpNs K H xs ms ∧ ms.flatten.length ≤ 4000 ∧
  ∀ t ys H', Same H H' → ys.Nodup → (∀ x, x ∈ ys ↔ x ∈ ms.flatten) → sortedS ys = true → SqT K H' t (ys.map V.str) → Q (.ref t) H'
def prf2 (l a : Addr) : List (Str × V) := putF "arrays" (.ref a) (putF "loops" (.ref l) [])
def prf (l a d : Addr) : List (Str × V) := putF "known" (.ref d) (prf2 l a)
def spPrI : Sp := fun vs H Q E => ∃ (p dx l : Addr) (xs : List V) (ms : List (List Str)), vs = [.ref p, .ref l] ∧ H p = some (.ins (CPr K) dx []) ∧ SqA K H l xs ∧ LpNs K H xs ms ∧ ms.flatten.length ≤ 4000 ∧
  Out (ckM "loops" xs.length 6) (RzK K p H E) (∀ (lt at_ dt : Addr) (ys : List Str) (H' : Hp), H' p = some (.ins (CPr K) dx (prf lt at_ dt)) → SqT K H' lt xs → SqT K H' at_ (ys.map V.str) → ys.Nodup → (∀ x, x ∈ ys ↔ x ∈ ms.flatten) → sortedS ys = true → Keep p H H' → Q .non H')
end
theorem zip_at {α : Type} {vs : List V} {ms : List α} (h : vs.length = ms.length) {i : Nat} {v : V} (hv : vs[i]? = some v) : ∃ m, ms[i]? = some m := by
  have hi : i < vs.length := (List.getElem?_eq_some_iff.mp hv).1
  exact ⟨ms[i]'(h ▸ hi), List.getElem?_eq_getElem (h ▸ hi)⟩
theorem flat_take {ms : List (List Str)} {i : Nat} {m : List Str} (h : ms[i]? = some m) : (ms.take (i + 1)).flatten = (ms.take i).flatten ++ m := by
  rw [List.take_add_one, h]
  simp
theorem flat_le {ms : List (List Str)} {i : Nat} : (ms.take i).flatten.length ≤ ms.flatten.length := by
  have e : ms.flatten = (ms.take i).flatten ++ (ms.drop i).flatten := by rw [← List.flatten_append, List.take_append_drop]
  rw [e, List.length_append]
  omega
section
variable {K : PySem.W.Frag} {H H' : Hp}
theorem RdN.same {v : V} {y : Str} (h : RdN K H v y) (s : Same H H') : RdN K H' v y := by
  obtain ⟨p, dx, fs, e, h1, h2⟩ := h
  exact ⟨p, dx, fs, e, s _ _ h1, h2⟩
theorem RdNs.same {vs : List V} {ys : List Str} (h : RdNs K H vs ys) (s : Same H H') : RdNs K H' vs ys := ⟨h.1, fun i v y a b => (h.2 i v y a b).same s⟩
theorem StN.same {v : V} {m : List Str} (h : StN K H v m) (s : Same H H') : StN K H' v m := by
  obtain ⟨p, dx, fs, x, r, rs, ys, e, h1, h2, h3, h4, h5, h6⟩ := h
  exact ⟨p, dx, fs, x, r, rs, ys, e, s _ _ h1, h2, h3, SqT.same h4 s, h5.same s, h6⟩
theorem StNs.same {vs : List V} {ms : List (List Str)} (h : StNs K H vs ms) (s : Same H H') : StNs K H' vs ms := ⟨h.1, fun i v y a b => (h.2 i v y a b).same s⟩
theorem LpN.same {v : V} {m : List Str} (h : LpN K H v m) (s : Same H H') : LpN K H' v m := by
  obtain ⟨p, dx, fs, st, xs, ms, e, h1, h2, h3, h4, h5⟩ := h
  exact ⟨p, dx, fs, st, xs, ms, e, s _ _ h1, h2, SqT.same h3 s, h4.same s, h5⟩
theorem LpNs.same {vs : List V} {ms : List (List Str)} (h : LpNs K H vs ms) (s : Same H H') : LpNs K H' vs ms := ⟨h.1, fun i v y a b => (h.2 i v y a b).same s⟩
variable {p C dx : Addr} {fs : List (Str × V)}
theorem LpNs.up {vs : List V} {ms : List (List Str)} (h : LpNs K H vs ms) (hp : H p = some (.ins C dx fs)) (k : Keep p H H') (n1 : fs.lookup ("statements" : Str) = none) (n2 : fs.lookup ("array" : Str) = none) : LpNs K H' vs ms := by
  have ne : ∀ {q D dy : Addr} {gs : List (Str × V)} {f : Str} {v : V}, H q = some (.ins D dy gs) → gs.lookup f = some v → fs.lookup f = none → q ≠ p := fun h1 h2 h3 z => by
    subst z
    rw [ins_inj hp h1, h2] at h3
    cases h3
  refine ⟨h.1, fun i v m a b => ?_⟩
  obtain ⟨q, dy, gs, st, xs, m2, e, h1, h2, h3, h4, h5⟩ := h.2 i v m a b
  refine ⟨q, dy, gs, st, xs, m2, e, k _ _ (ne h1 h2 n1) h1, h2, SqT.up h3 hp k, ⟨h4.1, fun i v m a b => ?_⟩, h5⟩
  obtain ⟨q, dy, gs, x, r, rs, ys, e, h1, h2, h3, h4, h5, h6⟩ := h4.2 i v m a b
  refine ⟨q, dy, gs, x, r, rs, ys, e, k _ _ (ne h1 h2 n2) h1, h2, h3, SqT.up h4 hp k, ⟨h5.1, fun i v y a b => ?_⟩, h6⟩
  obtain ⟨q, dy, gs, e, h1, h2⟩ := h5.2 i v y a b
  exact ⟨q, dy, gs, e, k _ _ (ne h1 h2 n2) h1, h2⟩
end
section
variable {P : Program} {w : World} {K : PySem.W.Frag} {mg : Str → Option Value} {base : Heap}
theorem sc_arrays_in : FnScope ["loops", "names", "loop", "statement", "read"] ["loops"] (defScope s_arrays_in) := ⟨rfl, rfl, rfl, by decide +kernel, rfl, by decide +kernel, by decide +kernel⟩
theorem ok_arr {f : Addr} {fd : FuncData} (F : FnP K "arrays_in" s_arrays_in f fd) (T : PrTx K mg) : FnOk P w K mg base CX0 1 f fd ["loops"] (spArr K) := by
  refine F.ok sc_arrays_in (fun vs H Q E h => ?_) (fun cdv A outer s H vs Q E hr h => ?_)
  · obtain ⟨l, xs, ms, rfl, _⟩ := h
    rfl
  · obtain ⟨l, xs, ms, rfl, hl, hms, hfew, k⟩ := h
    refine ⟨_, PSs.nox (pss_cons (ps_set (i := 1) sc_arrays_in.nd rfl (Or.inl rfl) (pe_lst pa_nil))
      (pss_cons (ps_for PassesOwn.never rfl (pi_tup (pv 0)) (pg_name (i := 2) sc_arrays_in.nd rfl (.inl rfl)) (pss_one (ps_for PassesOwn.never rfl (pi_tup (pe_fld (pv 2) rfl)) (pg_name (i := 3) sc_arrays_in.nd rfl (.inl rfl)) (pss_cons (ps_expr (pe_bm PySem.F.plainAttrs_list PySem.F.slot_list_append PySem.F.type_list_append mt_append (pv 1) (pa_cons (pe_fld (pv 3) rfl) pa_nil)))
      (pss_one (ps_expr (pe_bm PySem.F.plainAttrs_list PySem.F.slot_list_extend PySem.F.type_list_extend mt_extend (pv 1) (pa_cons (pe_lc (own := [("read", 4)]) (g := gName 4) (tt := tYes) rfl sc_arrays_in.nd (pi_tup (pe_fld (pv 3) rfl)) (blkOk_by (N := ["loops", "names", "loop", "statement", "read"]) (sc := defScope s_arrays_in) (by decide +kernel)) (fun _ _ _ _ _ => (pg_name (i := 4) sc_arrays_in.nd rfl (.inl rfl))) (fun _ _ _ _ _ => pts_nil) (fun _ _ _ _ _ => (pe_fldK (K := K) rfl (pv 4)))) pa_nil))))))))
      (pss_one (ps_ret (pe_callTy call_tuple_of (by rfl) T.tuple (by decide +kernel) (pa_cons (pe_callB (cr_sortedTx rfl) (by rfl) T.sorted (by decide +kernel) (pa_cons (pe_callTy (cr_setTx rfl) (by rfl) T.set (by decide +kernel) (pa_cons (pv 1) pa_nil)) pa_nil)) pa_nil)))))), ?_⟩
    refine ⟨Nat.zero_le _, fun N hN => ?_⟩
    have sN : Same H (upd H N (.lst [])) := Same.new _ (Same.refl H) hN
    have szl : 5000 ≤ sizeLine := by show 5000 ≤ sizeLine; decide
    have nN : ∀ {Hc : Hp}, (∀ b o, H b = some o → Hc b = some o) → ∀ o', ∀ b o, H b = some o → (upd Hc N o') b = some o := fun hk o' b o e => by
      rw [upd_ne (ne_of_none e hN)]
      exact hk b o e
    refine ⟨_, rfl, l, rfl, ⟨_, SqT.same hl sN⟩, for_tup (xs := xs) (fun i σ Hc => ∃ v2 v3 : Option V, σ = [some (.ref l), some (.ref N), v2, v3, none] ∧ Hc N = some (.lst ((ms.take i).flatten.map V.str)) ∧ ∀ b o, H b = some o → Hc b = some o) ⟨_, _, rfl, upd_same, sN⟩ (fun i σ Hc _ ⟨_, _, _, _, s⟩ => SqT.same hl s) ?_ ?_⟩
    · rintro i v σ Hc hv ⟨v2, v3, rfl, hN1, s1⟩
      obtain ⟨m, hm⟩ := zip_at hms.1 hv
      obtain ⟨p, dx, fs, st, ss, m2, rfl, h1, h2, h3, h4, h5⟩ := (hms.2 i v m hv hm).same s1
      refine normG (σ' := [some (.ref l), some (.ref N), some (.ref p), v3, none]) rfl ?_
      refine ⟨_, rfl, p, _, dx, _, _, rfl, h1, T.clL, T.nSt, h2, st, rfl, ⟨_, h3⟩, ?_⟩
      have tot : (ms.take i).flatten.length + m.length ≤ 4000 := by
        have e := flat_take hm
        have q := flat_le (ms := ms) (i := i + 1)
        rw [e, List.length_append] at q
        omega
      refine for_tup (xs := ss) (fun j σ Hd => ∃ v3 : Option V, σ = [some (.ref l), some (.ref N), some (.ref p), v3, none] ∧ Hd N = some (.lst (((ms.take i).flatten ++ (m2.take j).flatten).map V.str)) ∧ (∀ b o, H b = some o → Hd b = some o) ∧ SqT K Hd st ss ∧ StNs K Hd ss m2) ⟨_, rfl, by simpa using hN1, s1, h3, h4⟩ (fun j σ Hd _ ⟨_, _, _, _, z, _⟩ => z) ?_ ?_
      · rintro j v σ Hd hv2 ⟨v3, rfl, hN2, s2, hst, hsn⟩
        obtain ⟨m3, hm3⟩ := zip_at hsn.1 hv2
        obtain ⟨q, dq, gs, x, r, rs, ys, rfl, g1, g2, g3, g4, g5, g6⟩ := hsn.2 j v m3 hv2 hm3
        have tot2 : (ms.take i).flatten.length + ((m2.take j).flatten.length + m3.length) ≤ 4000 := by
          have e := flat_take hm3
          have z := flat_le (ms := m2) (i := j + 1)
          rw [e, List.length_append] at z
          rw [h5] at tot
          omega
        have l3 : m3.length = 1 + rs.length := by rw [g6, g5.1, List.length_cons]; omega
        refine normG (σ' := [some (.ref l), some (.ref N), some (.ref p), some (.ref q), none]) rfl ?_
        have noN : ∀ {C d : Addr} {fs : List (Str × V)} {b : Addr}, Hd b = some (.ins C d fs) → b ≠ N := fun e z => by
          rw [z, hN2] at e
          cases e
        refine ⟨_, rfl, .inl ⟨rfl, _, SqL.of hN2⟩, _, rfl, q, _, dq, _, _, rfl, g1, T.clM, T.nMA, g2, N, _, _, rfl, rfl, hN2, ?_, ?_⟩
        · rw [List.length_map, List.length_append]
          omega
        obtain ⟨He, eHe⟩ : ∃ L, L = upd Hd N (.lst (((ms.take i).flatten ++ (m2.take j).flatten).map V.str ++ [.str x])) := ⟨_, rfl⟩
        have kE : ∀ b o, b ≠ N → Hd b = some o → He b = some o := fun b o nb e => by rw [eHe, upd_ne nb]; exact e
        have hNE : He N = some (.lst (((ms.take i).flatten ++ (m2.take j).flatten).map V.str ++ [.str x])) := by rw [eHe]; exact upd_same
        rw [← eHe]
        have upT : ∀ {b : Addr} {zs : List V} {Ha Hb : Hp} {ws : List V}, Ha N = some (.lst ws) → (∀ b o, b ≠ N → Ha b = some o → Hb b = some o) → SqT K Ha b zs → SqT K Hb b zs := fun hw kk hz => hz.imp (fun z => z.imp (fun z => kk _ _ (fun y => by
          rw [y, hw] at z
          cases z) z) fun ⟨o, z⟩ => ⟨o, kk _ _ (fun y => by
          rw [y, hw] at z
          cases z) z⟩) id
        have upN : ∀ {Ha Hb : Hp} {ws : List V}, Ha N = some (.lst ws) → (∀ b o, b ≠ N → Ha b = some o → Hb b = some o) → StNs K Ha ss m2 → StNs K Hb ss m2 := fun {Ha Hb ws} hw kk z => ⟨z.1, fun i v m a b => by
          have no : ∀ {C d : Addr} {fs : List (Str × V)} {b : Addr}, Ha b = some (.ins C d fs) → b ≠ N := fun e y => by
            rw [y, hw] at e
            cases e
          obtain ⟨q, dq, gs, x, r, rs, ys, e, g1, g2, g3, g4, g5, g6⟩ := z.2 i v m a b
          refine ⟨q, dq, gs, x, r, rs, ys, e, kk _ _ (no g1) g1, g2, g3, upT hw kk g4, ⟨g5.1, fun i v y a b => ?_⟩, g6⟩
          obtain ⟨q, dq, gs, e, g1, g2⟩ := g5.2 i v y a b
          exact ⟨q, dq, gs, e, kk _ _ (no g1) g1, g2⟩⟩
        have g1E := kE _ _ (noN g1) g1
        have g4E := upT hN2 kE g4
        have stE := upT hN2 kE hst
        have snE := upN hN2 kE hsn
        have g5E : RdNs K He rs ys := ⟨g5.1, fun i v y a b => by
          obtain ⟨q, dq, gs, e, g1, g2⟩ := g5.2 i v y a b
          exact ⟨q, dq, gs, e, kE _ _ (noN g1) g1, g2⟩⟩
        have sE : ∀ b o, H b = some o → He b = some o := fun b o e => kE b o (ne_of_none e hN) (s2 b o e)
        refine ⟨_, rfl, .inl ⟨rfl, _, SqL.of hNE⟩, _, rfl, q, _, dq, _, _, rfl, g1E, T.clM, T.nMR, g3, r, rfl, ⟨_, g4E⟩, fun D hD => ?_⟩
        have sD := Same.new (.lst []) (Same.refl He) hD
        refine lc_tup (xs := rs) (fun n Hf => Hf D = some (.lst ((ys.take n).map V.str)) ∧ ∀ b o, He b = some o → Hf b = some o) ⟨upd_same, sD⟩ (fun n Hf _ z => SqT.same g4E z.2) ?_ ?_
        · rintro n v Hf hv3 ⟨hD1, kF⟩
          obtain ⟨y, hy⟩ := zip_at g5E.1 hv3
          obtain ⟨u, du, us, rfl, u1, u2⟩ := g5E.2 n v y hv3 hy
          refine ⟨rfl, yes_of ?_⟩
          refine ⟨_, rfl, u, _, du, _, _, rfl, kF _ _ u1, T.clR, T.nRA, u2, _, hD1, ?_, ?_, fun b o e => ?_⟩
          · rw [List.length_map, List.length_take]
            have := g5.1
            omega
          · rw [upd_same, List.take_add_one, hy]
            simp
          · rw [upd_ne (ne_of_none e hD)]
            exact kF b o e
        · rintro Hf ⟨hD1, kF⟩
          rw [g5E.1, List.take_length] at hD1
          have hNF := kF _ _ hNE
          refine ⟨N, D, _, _, rfl, rfl, hNF, hD1, ?_, ?_⟩
          · rw [List.length_append, List.length_map, List.length_map, List.length_append, List.length_singleton]
            have := g5.1
            omega
          have kG : ∀ b o, b ≠ N → Hf b = some o → (upd Hf N (.lst (((ms.take i).flatten ++ (m2.take j).flatten).map V.str ++ [.str x] ++ ys.map V.str))) b = some o := fun b o nb e => by rw [upd_ne nb]; exact e
          refine ⟨_, rfl, ?_, fun b o e => kG b o (ne_of_none e hN) (kF _ _ (sE _ _ e)), upT hNF kG (SqT.same stE kF), upN hNF kG (snE.same kF)⟩
          rw [upd_same, flat_take hm3, g6]
          simp
      · rintro σ Hd ⟨v3, rfl, hN2, s2, _, hsn⟩
        refine ⟨_, _, rfl, ?_, s2⟩
        rw [hsn.1, List.take_length, ← h5] at hN2
        rw [flat_take hm]
        exact hN2
    · rintro σ Hc ⟨v2, v3, rfl, hN1, s1⟩
      rw [hms.1, List.take_length] at hN1
      refine ⟨_, rfl, N, _, rfl, SqL.of hN1, by show _ < 4096; omega, fun a ha => ?_⟩
      have s2 := Same.new (TxO w a ms.flatten.reverse) (Same.refl Hc) ha
      refine ⟨a, _, rfl, upd_same, by rw [List.length_reverse]; omega, fun ys p nd mem srt hp => ?_⟩
      refine ⟨p, _, rfl, .inl ⟨SqL.of upd_same, fun t ht => ?_⟩⟩
      refine k t ys _ (Same.new _ (Same.new _ (Same.new _ s1 ha) hp) ht) nd (fun x => by rw [mem x, List.mem_reverse]) srt (SqT.of upd_same)
theorem scProgram__init__ : FnScope ["self", "loops"] ["self", "loops"] (defScope iProgram__init__) := ⟨rfl, rfl, rfl, by decide +kernel, rfl, by decide +kernel, by decide +kernel⟩
theorem ok_PrI {fd : FuncData} {kws : List (Str × V)} (F : FunD K "__init__" "Program.__init__" (defArgs iProgram__init__) (defBody iProgram__init__) (defScope iProgram__init__) [] kws (He.ma K (CPr K) "__init__") fd) (T : PrTx K mg)
    (dCkM : Dx P w K mg base 3 "check_many" ["what", "things", "most"] (spCkM K)) (dArrays : Dn P w K mg base 1 "arrays_in" ["loops"] (spArr K)) :
    FnOk P w K mg base (L2.CX P w) 4 (He.ma K (CPr K) "__init__") fd ["self", "loops"] (spPrI K) := by
  refine F.ok scProgram__init__ (fun vs H Q E h => ?_) (fun cdv A outer s H vs Q E hr h => ?_)
  · obtain ⟨p, dx, l, xs, ms, rfl, _⟩ := h
    rfl
  · obtain ⟨p, dx, l, xs, ms, rfl, hp, hl, hms, few, kk⟩ := h
    obtain ⟨tMOST_LOOPS, hMOST_LOOPS⟩ := T.con ("MOST_LOOPS", 6) (by simp)
    refine ⟨_, (pss_cons (ps_expr (pe_dx (K := K) dCkM rfl hr (fun σ => passAt (takes_of rfl rfl rfl rfl) σ) (pa_cons pe_str (pa_cons (pv 1) (pa_cons (pe_glob (v := .int 6) rfl hMOST_LOOPS ⟨tMOST_LOOPS, rfl⟩) pa_nil)))))
      (pss_cons (ps_fld (pv 0) (pe_callTy call_tuple_of (by rfl) T.tuple (by decide +kernel) (pa_cons (pv 1) pa_nil)) rfl)
      (pss_cons (ps_fld (pv 0) (pe_dn dArrays hr (pa_cons (pe_fld (pv 0) rfl) pa_nil)) rfl)
      (pss_one (ps_fld (pv 0) pe_dnewK rfl))))), ?_⟩
    refine ⟨_, rfl, _, _, _, _, rfl, hl, Out.end_ kk (fun e z => z.rz (Keep.ofSame (Same.refl H))) fun kk => ?_⟩
    have tail : ∀ (lt : Addr) (H1 : Hp), Same H H1 → SqT K H1 lt xs → H1 p = some (.ins (CPr K) dx []) ∧ SqT K (upd H1 p (.ins (CPr K) dx (putF "loops" (.ref lt) []))) lt xs ∧ LpNs K (upd H1 p (.ins (CPr K) dx (putF "loops" (.ref lt) []))) xs ms ∧
        ∀ (t : Addr) (ys : List Str) (H' : Hp), Same (upd H1 p (.ins (CPr K) dx (putF "loops" (.ref lt) []))) H' → ys.Nodup → (∀ x, x ∈ ys ↔ x ∈ ms.flatten) → sortedS ys = true → SqT K H' t (ys.map V.str) →
          H' p = some (.ins (CPr K) dx (putF "loops" (.ref lt) [])) ∧ ∀ d, (upd H' p (.ins (CPr K) dx (prf2 lt t))) d = none → (upd (upd H' p (.ins (CPr K) dx (prf2 lt t))) d (.dK [])) p = some (.ins (CPr K) dx (prf2 lt t)) ∧ Q .non (upd (upd (upd H' p (.ins (CPr K) dx (prf2 lt t))) d (.dK [])) p (.ins (CPr K) dx (prf lt t d))) := by
      intro lt H1 s1 hlt
      have hp1 := s1 _ _ hp
      have k1 : Keep p H1 (upd H1 p (.ins (CPr K) dx (putF "loops" (.ref lt) []))) := keep_upd1
      refine ⟨hp1, SqT.up hlt hp1 k1, (hms.same s1).up hp1 k1 rfl rfl, fun t ys H' s2 nd mem srt ht => ?_⟩
      have hp2 := s2 _ _ upd_same
      refine ⟨hp2, fun d hd => ?_⟩
      have k2 : Keep p H' (upd H' p (.ins (CPr K) dx (prf2 lt t))) := keep_upd1
      have s3 := Same.new (.dK []) (Same.refl (upd H' p (.ins (CPr K) dx (prf2 lt t)))) hd
      have hp3 : (upd (upd H' p (.ins (CPr K) dx (prf2 lt t))) d (.dK [])) p = some (.ins (CPr K) dx (prf2 lt t)) := s3 _ _ upd_same
      have k4 : Keep p (upd (upd H' p (.ins (CPr K) dx (prf2 lt t))) d (.dK [])) (upd (upd (upd H' p (.ins (CPr K) dx (prf2 lt t))) d (.dK [])) p (.ins (CPr K) dx (prf lt t d))) := keep_upd1
      refine ⟨hp3, kk lt t d ys _ upd_same (SqT.up (SqT.same (SqT.up (SqT.same (SqT.up hlt hp1 k1) s2) hp2 k2) s3) hp3 k4) (SqT.up (SqT.same (SqT.up ht hp2 k2) s3) hp3 k4) nd mem srt ?_⟩
      exact keep_trans2 (keep_trans (keep_trans2 (keep_trans (keep_trans2 (Keep.ofSame s1) k1) s2) k2) s3) k4
    rcases hl with hL | hL
    · refine ⟨_, rfl, l, xs, rfl, .inl ⟨hL, fun lt hlt => ?_⟩⟩
      obtain ⟨t1, t2, t3, t4⟩ := tail lt _ (Same.new (.tup xs) (Same.refl H) hlt) (SqT.of upd_same)
      refine ⟨_, rfl, p, _, dx, _, rfl, t1, T.clP, T.nPL, pl0, ?_⟩
      refine ⟨_, rfl, p, _, dx, _, _, rfl, upd_same, T.clP, T.nPL, (by rw [lookup_putF, if_pos rfl]), lt, xs, ms, rfl, t2, t3, few, fun t ys H' s nd mem srt ht => ?_⟩
      obtain ⟨t5, t6⟩ := t4 t ys H' s nd mem srt ht
      refine ⟨_, rfl, p, _, dx, _, rfl, t5, T.clP, T.nPA, pl pl0, ?_⟩
      intro d hd
      obtain ⟨t7, t8⟩ := t6 d hd
      exact ⟨_, rfl, p, _, dx, _, rfl, t7, T.clP, T.nPK, pl (pl pl0), t8⟩
    · obtain ⟨t1, t2, t3, t4⟩ := tail l _ (Same.refl H) hL
      refine ⟨_, rfl, l, xs, rfl, .inr ⟨hL, ?_⟩⟩
      refine ⟨_, rfl, p, _, dx, _, rfl, t1, T.clP, T.nPL, pl0, ?_⟩
      refine ⟨_, rfl, p, _, dx, _, _, rfl, upd_same, T.clP, T.nPL, (by rw [lookup_putF, if_pos rfl]), l, xs, ms, rfl, t2, t3, few, fun t ys H' s nd mem srt ht => ?_⟩
      obtain ⟨t5, t6⟩ := t4 t ys H' s nd mem srt ht
      refine ⟨_, rfl, p, _, dx, _, rfl, t5, T.clP, T.nPA, pl pl0, ?_⟩
      intro d hd
      obtain ⟨t7, t8⟩ := t6 d hd
      exact ⟨_, rfl, p, _, dx, _, rfl, t7, T.clP, T.nPK, pl (pl pl0), t8⟩
end
end K28
set_option maxHeartbeats 4000000
namespace Z
open PySem PySem.Spec PyProof.Rows L2
section
variable {X : Cx} {K : PySem.W.Frag} {k j n : Nat} {f C : Addr} {fd : FuncData} {ps ks : List Str} {sp : Sp} {E : L2.St → XK} {x : Str} {p pos : Pos} {e : Expr} {es : List Expr} {kws : List Keyword} {t tk : TA} {g : List Value → List Value → List Value} {gV : List V → List V → List V}
/-- C(e, ..) with the promise of __init__ in another form -/
theorem pe_mkR {R : List V → Hp → VK → XK → Prop} {dvs : List V} {ds : List Value} (M : Mc X.prog X.w K X.mg X.base j x f fd ps sp) (hK : X.K = K) (hb : Binds K fd ps ds) (hd : Vals dvs ds)
    (of : ∀ {vs H Q E y dx}, R vs H Q E → H y = none → H dx = none → dx ≠ y → sp (.ref y :: (vs ++ dvs)) (upd (upd H dx (.own y)) y (.ins (He.ga K x) dx [])) (fun v H2 => v = .non ∧ Q (.ref y) H2) E)
    (hr : Room k X.A) (hx : ∀ σ, PassesAt (L2.CX X.prog X.w) X σ (E σ)) (ha : PA X (e :: es) t) (hjk : j + 1 ≤ k) (hg : Gl X x)
    (hdb : (x == ("__debug__" : Str)) = false) (he : starEach (e :: es) X.env = (false, eval e X.env) :: starEach es X.env) (hpl : (backTo pos (starEach es X.env)).any (·.1) = false) :
    PE X (.Call (.Name x p) (e :: es) [] pos) (fun σ H Q => t σ H fun vs H1 => R vs H1 Q (E σ)) := by
  subst hK
  refine ⟨fun pins s σ H Q I h => ?_⟩
  refine wpAny_Call_Name_kw (ld_glob I hg M.gC ?_ hdb)
  refine PySem.W.callWith_K (h₀ := X.base) I.ok.mod.kin M.mK.kp (thn (ha.run pos pins s σ H _ I h) fun us s1 ⟨vs, H1, I1, r, q⟩ => ⟨I1.kIn, ?_⟩) he hpl
  have q0 := of q (I1.hok.fresh (Nat.le_succ _)) (I1.hok.fresh (Nat.le_refl _)) (Nat.ne_of_lt (Nat.lt_succ_self _))
  have len : ∀ a : Addr, (Value.ref a :: us ++ ds).length = ps.length := fun a => by
    have e := M.fn.len _ _ _ _ q0
    have l1 := r.length
    have l2 := hd.length
    simp only [List.length_cons, List.length_append] at e ⊢
    omega
  exact make_run M.mK M.fn (hr.mono hjk) (hx σ) I1 (fun a => .cons rfl (r.append hd)) (fun s' a k => hb s' (Value.ref a :: us) k (len a)) fun y dx ny nd ne => of q ny nd ne
/-- C(e, .., k = v, ..) likewise -/
theorem pe_mkRK {R : List V → List V → Hp → VK → XK → Prop} (M : Mc X.prog X.w K X.mg X.base j x f fd ps sp) (hK : X.K = K) (hb : KBn K fd ps (n + 1) ks g gV)
    (of : ∀ {vs zs H Q E}, R vs zs H Q E → vs.length = n ∧ zs.length = ks.length ∧ ∀ y dx, H y = none → H dx = none → dx ≠ y → sp (gV (.ref y :: vs) zs) (upd (upd H dx (.own y)) y (.ins (He.ga K x) dx [])) (fun v H2 => v = .non ∧ Q (.ref y) H2) E)
    (hr : Room k X.A) (hx : ∀ σ, PassesAt (L2.CX X.prog X.w) X σ (E σ)) (ha : PA X (e :: es) t) (hkw : PK X kws tk) (hjk : j + 1 ≤ k) (hg : Gl X x)
    (hall : (backToKw pos (keywordEach kws X.env)).all (·.1.isSome) = true) (hks : (backToKw pos (keywordEach kws X.env)).filterMap (·.1) = ks) (hdb : (x == ("__debug__" : Str)) = false)
    (he : starEach (e :: es) X.env = (false, eval e X.env) :: starEach es X.env) (hpl : ((backTo pos (starEach (e :: es) X.env)).any (·.1) || (backToKw pos (keywordEach kws X.env)).any (·.1.isNone)) = false) :
    PE X (.Call (.Name x p) (e :: es) kws pos) (fun σ H Q => t σ H fun vs H1 => tk σ H1 fun zs H2 => R vs zs H2 Q (E σ)) := by
  subst hK
  refine ⟨fun pins s σ H Q I h => ?_⟩
  refine wpAny_Call_Name_kw (ld_glob I hg M.gC ?_ hdb)
  refine PySem.W.callWith_KW (h₀ := X.base) I.ok.mod.kin M.mK.kp hall (thn (ha.run pos pins s σ H _ I h) fun us s1 ⟨vs, H1, I1, r, q⟩ => ?_) hpl he
  refine thn (hkw.run pos pins s1 σ H1 _ I1 q) fun ws s2 ⟨zs, H2, I2, rz, q2⟩ => ⟨I2.kIn, ?_⟩
  obtain ⟨l1, l2, q3⟩ := of q2
  rw [hks]
  have q0 := q3 (s2.heap.objs.size + 1) s2.heap.objs.size (I2.hok.fresh (Nat.le_succ _)) (I2.hok.fresh (Nat.le_refl _)) (Nat.ne_of_lt (Nat.lt_succ_self _))
  have I3 := Inv.made (C := He.ga X.K x) I2
  have r1 : Vals (V.ref (s2.heap.objs.size + 1) :: vs) (Value.ref (s2.heap.objs.size + 1) :: us) := .cons rfl r
  have r2 := hb.rel r1 rz
  have n1 : (Value.ref (s2.heap.objs.size + 1) :: us).length = n + 1 := by rw [List.length_cons, ← r.length, l1]
  refine wpAny_call (make_map (f := f) I2.kIn M.mK.makes M.mK.init (beq_iff_eq.mp M.mK.fn) (codeAny_mono (M.fn.run _ X.stack _ _ ⟨Value.ref (s2.heap.objs.size + 1) :: us, ks.zip ws⟩ (g (Value.ref (s2.heap.objs.size + 1) :: us) ws) _ _ (E σ) ((hr.mono hjk).make _ us (ks.zip ws))
    (I3.env0.make _ us (ks.zip ws)) (hb.to _ (Value.ref (s2.heap.objs.size + 1) :: us) ws I3.kIn n1 (rz.length.symm.trans l2)) r2 q0) fun r' s' z => ?_))
  cases r' with
  | error e => exact hx σ pins _ _ e s' I3 z
  | ok fl =>
    cases fl with
    | ret u =>
      obtain ⟨v, H', I4, rv, ev, q3⟩ := I3.after z
      subst ev
      exact ⟨rv, ⟨V.ref (s2.heap.objs.size + 1), H', I4, rfl, q3⟩⟩
    | next => exact False.elim z
    | brk => exact False.elim z
    | cont => exact False.elim z
end
end Z
set_option maxHeartbeats 4000000
namespace K28
open PySem PySem.Spec PyProof.Rows L2 Z
abbrev rps : List Str := ["self", "array", "place", "factor"]
abbrev sps : List Str := ["self", "array", "cell", "constant", "reads", "conditions"]
abbrev lps : List Str := ["self", "low", "high", "statements", "step", "down"]
section
variable (P : Program) (w : World) (K : PySem.W.Frag) (mg : Str → Option Value) (base : Heap)
def MkRd : Prop := ∃ f fd, Mc P w K mg base 7 "Read" f fd rps (spRdI K) ∧ (∃ ds, Vals [.int 1] ds ∧ Binds K fd rps ds) ∧ KBn K fd rps 3 ["factor"] (fun us ws => us ++ ws) (fun vs zs => vs ++ zs)
def MkSt : Prop := ∃ f fd, ∃ r0 g0 : Addr, Mc P w K mg base 5 "Statement" f fd sps (spStI K) ∧ (∃ ds, Vals [.ref r0, .ref g0] ds ∧ Binds K fd sps ds) ∧ KBn K fd sps 4 ["reads", "conditions"] (fun us ws => us ++ ws) (fun vs zs => vs ++ zs) ∧
  (∃ mv, KBn K fd sps 4 ["conditions"] (fun us ws => us ++ (mv ++ ws)) (fun vs zs => vs ++ ([.ref r0] ++ zs))) ∧ ∀ H : Hp, SqT K H r0 [] ∧ SqT K H g0 []
def MkLp : Prop := ∃ f fd, Mc P w K mg base 7 "Loop" f fd lps (spLpI K) ∧ (∃ ds, Vals [.int 1, .bl false] ds ∧ Binds K fd lps ds) ∧ KBn K fd lps 4 ["step", "down"] (fun us ws => us ++ ws) (fun vs zs => vs ++ zs)
def MkPr : Prop := ∃ f fd, Mc P w K mg base 4 "Program" f fd ["self", "loops"] (spPrI K) ∧ Binds K fd ["self", "loops"] []
end
section
variable {P : Program} {w : World} {K : PySem.W.Frag} {mg : Str → Option Value} {base : Heap} {f : Addr} {fd : FuncData}
theorem mk_Rd (F : FunD K "__init__" "Read.__init__" (defArgs iRead__init__) (defBody iRead__init__) (defScope iRead__init__) [] [("factor", .int 1)] f fd) (M : Mc P w K mg base 7 "Read" f fd rps (spRdI K)) : MkRd P w K mg base := by
  obtain ⟨mv, kb⟩ := FunD.kbinds0 (ps := rps) F 3 ["factor"] [] (fun us _ ws => us ++ ws) (by simp) (by simp) (fun r1 _ r2 => r1.append r2)
    (fun D doc pm an cdv ct us mv ws l1 l2 l3 => match us, mv, ws, l1, l2, l3 with | [_, _, _], [], [_], _, _, _ => rfl)
  obtain ⟨ds, v, b⟩ := FunD.binds0 (ps := rps) F 3 (by simp) rfl
    (fun D doc pm an cdv ct us ks l1 l2 => match us, ks, l1, l2 with | [_, _, _], [_], _, _ => ⟨_, _, _, _, _, _, rfl, rfl, rfl⟩)
  exact ⟨f, fd, M, ⟨ds, v, b⟩, kb⟩
theorem mk_St {r0 g0 : Addr} (F : FunD K "__init__" "Statement.__init__" (defArgs iStatement__init__) (defBody iStatement__init__) (defScope iStatement__init__) [] [("reads", .ref r0), ("conditions", .ref g0)] f fd) (M : Mc P w K mg base 5 "Statement" f fd sps (spStI K))
    (h : ∀ H : Hp, SqT K H r0 [] ∧ SqT K H g0 []) : MkSt P w K mg base := by
  obtain ⟨mv, kb⟩ := FunD.kbinds0 (ps := sps) F 4 ["reads", "conditions"] [] (fun us _ ws => us ++ ws) (by simp) (by simp) (fun r1 _ r2 => r1.append r2)
    (fun D doc pm an cdv ct us mv ws l1 l2 l3 => match us, mv, ws, l1, l2, l3 with | [_, _, _, _], [], [_, _], _, _, _ => rfl)
  obtain ⟨mv2, kb2⟩ := FunD.kbinds0 (ps := sps) F 4 ["conditions"] [("reads", .ref r0)] (fun us mz ws => us ++ (mz ++ ws)) (by simp) (by simp) (fun r1 r2 r3 => r1.append (r2.append r3))
    (fun D doc pm an cdv ct us mv ws l1 l2 l3 => match us, mv, ws, l1, l2, l3 with | [_, _, _, _], [_], [_], _, _, _ => ⟨_, _, _, _, _, _, rfl, rfl, rfl⟩)
  obtain ⟨ds, v, b⟩ := FunD.binds0 (ps := sps) F 4 (by simp) rfl
    (fun D doc pm an cdv ct us ks l1 l2 => match us, ks, l1, l2 with | [_, _, _, _], [_, _], _, _ => ⟨_, _, _, _, _, _, rfl, rfl, _, _, _, _, _, _, rfl, rfl, rfl⟩)
  exact ⟨f, fd, r0, g0, M, ⟨ds, v, b⟩, kb, ⟨mv2, kb2⟩, h⟩
theorem mk_Lp (F : FunD K "__init__" "Loop.__init__" (defArgs iLoop__init__) (defBody iLoop__init__) (defScope iLoop__init__) [] [("step", .int 1), ("down", .bl false)] f fd) (M : Mc P w K mg base 7 "Loop" f fd lps (spLpI K)) : MkLp P w K mg base := by
  obtain ⟨mv, kb⟩ := FunD.kbinds0 (ps := lps) F 4 ["step", "down"] [] (fun us _ ws => us ++ ws) (by simp) (by simp) (fun r1 _ r2 => r1.append r2)
    (fun D doc pm an cdv ct us mv ws l1 l2 l3 => match us, mv, ws, l1, l2, l3 with | [_, _, _, _], [], [_, _], _, _, _ => rfl)
  obtain ⟨ds, v, b⟩ := FunD.binds0 (ps := lps) F 4 (by simp) rfl
    (fun D doc pm an cdv ct us ks l1 l2 => match us, ks, l1, l2 with | [_, _, _, _], [_, _], _, _ => ⟨_, _, _, _, _, _, rfl, rfl, _, _, _, _, _, _, rfl, rfl, rfl⟩)
  exact ⟨f, fd, M, ⟨ds, v, b⟩, kb⟩
end
section
variable (K : PySem.W.Frag)
def rRd (ws : List V) (H : Hp) (Q : VK) (E : XK) : Prop := ∃ (x : Str) (v : V) (f a b c d : Int), ws = [.str x, v, .int f] ∧ x.length ≤ 1000 ∧ PlV K H v a b c d ∧ Out (ckRead x f a b c d) (Rz K H E) (∀ p H', Same H H' → RdAt K H' p x a b c d f → Q (.ref p) H')
def rSt (ws : List V) (H : Hp) (Q : VK) (E : XK) : Prop := ∃ (x : Str) (v : V) (k : Int) (lr lc : Addr) (rs cs : List V) (cc : List (Int × Int × Int)) (a b c : Int), ws = [.str x, v, .int k, .ref lr, .ref lc] ∧ x.length ≤ 1000 ∧ SumV K H v a b c ∧
  SqA K H lr rs ∧ SqA K H lc cs ∧ Cnds K H cs cc ∧ Out (ckStm rs.length cs.length x cc a b c k) (Rz K H E) (∀ p H', Same H H' → StmAt K H' p x a b c k rs cs → Q (.ref p) H')
def rLp (ws : List V) (H : Hp) (Q : VK) (E : XK) : Prop := ∃ (v1 v2 : V) (l : Addr) (xs : List V) (t u : P4) (S : Int) (dn : Bool), ws = [v1, v2, .ref l, .int S, .bl dn] ∧ PlV K H v1 t.1 t.2.1 t.2.2.1 t.2.2.2 ∧ PlV K H v2 u.1 u.2.1 u.2.2.1 u.2.2.2 ∧ SqA K H l xs ∧
  Out (ckLp xs.length S t u) (Rz K H E) (∀ p H', Same H H' → LpAt K H' p t u S dn xs → Q (.ref p) H')
def PrAt (H : Hp) (p : Addr) (xs : List V) (ys : List Str) : Prop := ∃ dx l a d, H p = some (.ins (CPr K) dx (prf l a d)) ∧ SqT K H l xs ∧ SqT K H a (ys.map V.str)
def rPr (ws : List V) (H : Hp) (Q : VK) (E : XK) : Prop := ∃ (l : Addr) (xs : List V) (ms : List (List Str)), ws = [.ref l] ∧ SqA K H l xs ∧ LpNs K H xs ms ∧ ms.flatten.length ≤ 4000 ∧
  Out (ckM "loops" xs.length 6) (Rz K H E) (∀ p ys H', Same H H' → PrAt K H' p xs ys → ys.Nodup → (∀ x, x ∈ ys ↔ x ∈ ms.flatten) → sortedS ys = true → Q (.ref p) H')
end
section
variable {K : PySem.W.Frag} {H : Hp} {Q : VK} {E : XK} {p dx C : Addr}
theorem new_same (np : H p = none) (nd : H dx = none) (ne : dx ≠ p) : Same H (upd (upd H dx (.own p)) p (.ins C dx [])) := Same.new _ (Same.new _ (Same.refl H) nd) (by rw [upd_ne (Ne.symm ne)]; exact np)
theorem rz_new {e : Er} (np : H p = none) (nd : H dx = none) (h : Rz K H E e) : RzK K p (upd (upd H dx (.own p)) p (.ins C dx [])) E e := fun d H' k hd => h d H' (Same.made (Same.refl H) np nd k) hd
theorem rRd_of {ws : List V} (h : rRd K ws H Q E) (np : H p = none) (nd : H dx = none) (ne : dx ≠ p) : spRdI K (.ref p :: ws) (upd (upd H dx (.own p)) p (.ins (CRd K) dx [])) (fun v H2 => v = .non ∧ Q (.ref p) H2) E := by
  obtain ⟨x, v, f, a, b, c, d, rfl, hx, hv, k⟩ := h
  exact ⟨p, dx, x, v, f, a, b, c, d, rfl, upd_same, hx, hv.same (new_same np nd ne), Out.end_ k (fun e z => rz_new np nd z) fun k q H' hp hq kp => ⟨rfl, k p H' (Same.made (Same.refl H) np nd kp) ⟨dx, q, hp, hq⟩⟩⟩
theorem rSt_of {ws : List V} (h : rSt K ws H Q E) (np : H p = none) (nd : H dx = none) (ne : dx ≠ p) : spStI K (.ref p :: ws) (upd (upd H dx (.own p)) p (.ins (CSt K) dx [])) (fun v H2 => v = .non ∧ Q (.ref p) H2) E := by
  obtain ⟨x, v, k, lr, lc, rs, cs, cc, a, b, c, rfl, hx, hv, h1, h2, h3, kk⟩ := h
  have s := new_same (C := CSt K) np nd ne
  exact ⟨p, dx, x, v, k, lr, lc, rs, cs, cc, a, b, c, rfl, upd_same, hx, hv.same s, SqA.same h1 s, SqA.same h2 s, h3.same s, Out.end_ kk (fun e z => rz_new np nd z) fun kk q r g H' hp hq hr hg kp => ⟨rfl, kk p H' (Same.made (Same.refl H) np nd kp) ⟨dx, q, r, g, hp, hq, hr, hg⟩⟩⟩
theorem rLp_of {ws : List V} (h : rLp K ws H Q E) (np : H p = none) (nd : H dx = none) (ne : dx ≠ p) : spLpI K (.ref p :: ws) (upd (upd H dx (.own p)) p (.ins (CL K) dx [])) (fun v H2 => v = .non ∧ Q (.ref p) H2) E := by
  obtain ⟨v1, v2, l, xs, t, u, S, dn, rfl, h1, h2, h3, kk⟩ := h
  have s := new_same (C := CL K) np nd ne
  exact ⟨p, dx, v1, v2, l, xs, t, u, S, dn, rfl, upd_same, h1.same s, h2.same s, SqA.same h3 s, Out.end_ kk (fun e z => rz_new np nd z) fun kk lo hi st H' hp hq hr hg kp => ⟨rfl, kk p H' (Same.made (Same.refl H) np nd kp) ⟨dx, lo, hi, st, hp, hq, hr, hg⟩⟩⟩
theorem rPr_of {ws : List V} (h : rPr K ws H Q E) (np : H p = none) (nd : H dx = none) (ne : dx ≠ p) : spPrI K (.ref p :: ws) (upd (upd H dx (.own p)) p (.ins (CPr K) dx [])) (fun v H2 => v = .non ∧ Q (.ref p) H2) E := by
  obtain ⟨l, xs, ms, rfl, h1, h2, few, kk⟩ := h
  have s := new_same (C := CPr K) np nd ne
  exact ⟨p, dx, l, xs, ms, rfl, upd_same, SqA.same h1 s, h2.same s, few, Out.end_ kk (fun e z => rz_new np nd z) fun kk lt at_ dt ys H' hp h3 h4 h5 h6 h7 kp => ⟨rfl, kk p ys H' (Same.made (Same.refl H) np nd kp) ⟨dx, lt, at_, dt, hp, h3, h4⟩ h5 h6 h7⟩⟩
end
section
variable {X : Cx} {K : PySem.W.Frag} {k : Nat} {E : L2.St → XK} {p pos : Pos} {e : Expr} {es : List Expr} {kws : List Keyword} {t tk : TA}
def tRdK (K : PySem.W.Frag) (t tk : TA) (E : L2.St → XK) : TE := fun σ H Q => t σ H fun vs H1 => tk σ H1 fun zs H2 => vs.length = 2 ∧ zs.length = 1 ∧ rRd K (vs ++ zs) H2 Q (E σ)
theorem pe_RdK (M : MkRd X.prog X.w K X.mg X.base) (hK : X.K = K) (hr : Room k X.A) (hx : ∀ σ, PassesAt (L2.CX X.prog X.w) X σ (E σ)) (ha : PA X (e :: es) t) (hkw : PK X kws tk) (hjk : 8 ≤ k := by decide) (hg : Gl X "Read" := by rfl) (hall : (backToKw pos (keywordEach kws X.env)).all (·.1.isSome) = true := by rfl) (hks : (backToKw pos (keywordEach kws X.env)).filterMap (·.1) = (["factor"] : List Str) := by rfl)
    (he : starEach (e :: es) X.env = (false, eval e X.env) :: starEach es X.env := by rfl) (hpl : ((backTo pos (starEach (e :: es) X.env)).any (·.1) || (backToKw pos (keywordEach kws X.env)).any (·.1.isNone)) = false := by rfl) :
    PE X (.Call (.Name "Read" p) (e :: es) kws pos) (tRdK K t tk E) := by
  obtain ⟨f, fd, M, _, kb⟩ := M
  exact pe_mkRK (n := 2) (R := fun vs zs H2 Q E => vs.length = 2 ∧ zs.length = 1 ∧ rRd K (vs ++ zs) H2 Q E) M hK kb (fun q => ⟨q.1, q.2.1, fun y dx ny nd ne => rRd_of q.2.2 ny nd ne⟩) hr hx ha hkw hjk hg hall hks (by decide) he hpl
theorem pe_StK2 (M : MkSt X.prog X.w K X.mg X.base) (hK : X.K = K) (hr : Room k X.A) (hx : ∀ σ, PassesAt (L2.CX X.prog X.w) X σ (E σ)) (ha : PA X (e :: es) t) (hkw : PK X kws tk) (hjk : 6 ≤ k := by decide) (hg : Gl X "Statement" := by rfl) (hall : (backToKw pos (keywordEach kws X.env)).all (·.1.isSome) = true := by rfl) (hks : (backToKw pos (keywordEach kws X.env)).filterMap (·.1) = (["reads", "conditions"] : List Str) := by rfl)
    (he : starEach (e :: es) X.env = (false, eval e X.env) :: starEach es X.env := by rfl) (hpl : ((backTo pos (starEach (e :: es) X.env)).any (·.1) || (backToKw pos (keywordEach kws X.env)).any (·.1.isNone)) = false := by rfl) :
    PE X (.Call (.Name "Statement" p) (e :: es) kws pos) (fun σ H Q => t σ H fun vs H1 => tk σ H1 fun zs H2 => vs.length = 3 ∧ zs.length = 2 ∧ rSt K (vs ++ zs) H2 Q (E σ)) := by
  obtain ⟨f, fd, r0, g0, M, _, kb, _⟩ := M
  exact pe_mkRK (n := 3) (R := fun vs zs H2 Q E => vs.length = 3 ∧ zs.length = 2 ∧ rSt K (vs ++ zs) H2 Q E) M hK kb (fun q => ⟨q.1, q.2.1, fun y dx ny nd ne => rSt_of q.2.2 ny nd ne⟩) hr hx ha hkw hjk hg hall hks (by decide) he hpl
theorem pe_LpP (M : MkLp X.prog X.w K X.mg X.base) (hK : X.K = K) (hr : Room k X.A) (hx : ∀ σ, PassesAt (L2.CX X.prog X.w) X σ (E σ)) (ha : PA X (e :: es) t) (hjk : 8 ≤ k := by decide) (hg : Gl X "Loop" := by rfl) (he : starEach (e :: es) X.env = (false, eval e X.env) :: starEach es X.env := by rfl) (hpl : (backTo pos (starEach es X.env)).any (·.1) = false := by rfl) :
    PE X (.Call (.Name "Loop" p) (e :: es) [] pos) (fun σ H Q => t σ H fun vs H1 => rLp K (vs ++ [.int 1, .bl false]) H1 Q (E σ)) := by
  obtain ⟨f, fd, M, ⟨ds, v, b⟩, _⟩ := M
  exact pe_mkR (R := fun vs H1 Q E => rLp K (vs ++ [.int 1, .bl false]) H1 Q E) M hK b v (fun q nx nd ne => rLp_of q nx nd ne) hr hx ha hjk hg (by decide) he hpl
theorem pe_LpK (M : MkLp X.prog X.w K X.mg X.base) (hK : X.K = K) (hr : Room k X.A) (hx : ∀ σ, PassesAt (L2.CX X.prog X.w) X σ (E σ)) (ha : PA X (e :: es) t) (hkw : PK X kws tk) (hjk : 8 ≤ k := by decide) (hg : Gl X "Loop" := by rfl) (hall : (backToKw pos (keywordEach kws X.env)).all (·.1.isSome) = true := by rfl) (hks : (backToKw pos (keywordEach kws X.env)).filterMap (·.1) = (["step", "down"] : List Str) := by rfl)
    (he : starEach (e :: es) X.env = (false, eval e X.env) :: starEach es X.env := by rfl) (hpl : ((backTo pos (starEach (e :: es) X.env)).any (·.1) || (backToKw pos (keywordEach kws X.env)).any (·.1.isNone)) = false := by rfl) :
    PE X (.Call (.Name "Loop" p) (e :: es) kws pos) (fun σ H Q => t σ H fun vs H1 => tk σ H1 fun zs H2 => vs.length = 3 ∧ zs.length = 2 ∧ rLp K (vs ++ zs) H2 Q (E σ)) := by
  obtain ⟨f, fd, M, _, kb⟩ := M
  exact pe_mkRK (n := 3) (R := fun vs zs H2 Q E => vs.length = 3 ∧ zs.length = 2 ∧ rLp K (vs ++ zs) H2 Q E) M hK kb (fun q => ⟨q.1, q.2.1, fun y dx ny nd ne => rLp_of q.2.2 ny nd ne⟩) hr hx ha hkw hjk hg hall hks (by decide) he hpl
theorem pe_PrP (M : MkPr X.prog X.w K X.mg X.base) (hK : X.K = K) (hr : Room k X.A) (hx : ∀ σ, PassesAt (L2.CX X.prog X.w) X σ (E σ)) (ha : PA X (e :: es) t) (hjk : 5 ≤ k := by decide) (hg : Gl X "Program" := by rfl) (he : starEach (e :: es) X.env = (false, eval e X.env) :: starEach es X.env := by rfl) (hpl : (backTo pos (starEach es X.env)).any (·.1) = false := by rfl) :
    PE X (.Call (.Name "Program" p) (e :: es) [] pos) (fun σ H Q => t σ H fun vs H1 => rPr K vs H1 Q (E σ)) := by
  obtain ⟨f, fd, M, b⟩ := M
  exact pe_mkR (R := fun vs H1 Q E => rPr K vs H1 Q E) M hK b .nil (fun q nx nd ne => by rw [List.append_nil]; exact rPr_of q nx nd ne) hr hx ha hjk hg (by decide) he hpl
end
end K28
set_option maxHeartbeats 4000000
namespace Z
open PySem PySem.Spec PyProof.Rows L2
mutual
inductive DT (H : Hp) : V → PyData → Prop
  | non : DT H .non .none
  | bl (b : Bool) : DT H (.bl b) (.bool b)
  | int (i : Int) : DT H (.int i) (.int i)
  | str (x : Str) : DT H (.str x) (.str x)
  | tup {a : Addr} {xs : List V} {ds : List PyData} : H a = some (.tup xs) → DTs H xs ds → DT H (.ref a) (.tuple ds)
inductive DTs (H : Hp) : List V → List PyData → Prop
  | nil : DTs H [] []
  | cons {v : V} {vs : List V} {d : PyData} {ds : List PyData} : DT H v d → DTs H vs ds → DTs H (v :: vs) (d :: ds)
end
/-- tuples stand -/
def TSame (H H' : Hp) : Prop := ∀ a xs, H a = some (.tup xs) → H' a = some (.tup xs)
section
variable {H H1 H2 H' : Hp} {D p : Addr} {o u : HO}
theorem TSame.refl (H : Hp) : TSame H H := fun _ _ e => e
theorem TSame.trans (a : TSame H H1) (b : TSame H1 H2) : TSame H H2 := fun c xs e => b c xs (a c xs e)
theorem TSame.of (s : Same H H') : TSame H H' := fun a xs e => s a _ e
theorem TSame.keepO (e : H p = some o) (n : ∀ xs, o ≠ .tup xs) (k : Keep p H H') : TSame H H' := fun a xs ea => k a _ (fun z => by
  rw [z, e] at ea
  exact n xs (Option.some.inj ea)) ea
theorem TSame.keep {t : Nat} (h : Pen H p t) (k : Keep p H H') : TSame H H' := by
  obtain ⟨c, ns, a, l, e, _⟩ := h
  exact TSame.keepO e (fun _ z => by cases z) k
theorem TSame.updO (e : H D = some o) (n : ∀ xs, o ≠ .tup xs) : TSame H (upd H D u) := TSame.keepO e n fun b w nb eb => by
  rw [upd_ne nb]
  exact eb
theorem TSame.updL {xs : List V} (e : H D = some (.lst xs)) : TSame H (upd H D u) := TSame.updO e fun _ z => by cases z
theorem TSame.updT {kvs : List (List Key × V)} (e : H D = some (.dT kvs)) : TSame H (upd H D u) := TSame.updO e fun _ z => by cases z
theorem TSame.new (n : H D = none) : TSame H (upd H D u) := TSame.of (Same.new _ (Same.refl H) n)
end
mutual
theorem DT.mono {H H' : Hp} (s : TSame H H') : ∀ (d : PyData) {v : V}, DT H v d → DT H' v d
  | .none, _, h => by cases h; exact .non
  | .bool b, _, h => by cases h; exact .bl b
  | .int i, _, h => by cases h; exact .int i
  | .str x, _, h => by cases h; exact .str x
  | .list ds, _, h => by cases h
  | .tuple ds, _, h => by
    cases h with
    | tup e r => exact .tup (s _ _ e) (DTs.mono s ds r)
  | .dict _, _, h => by cases h
theorem DTs.mono {H H' : Hp} (s : TSame H H') : ∀ (ds : List PyData) {vs : List V}, DTs H vs ds → DTs H' vs ds
  | [], _, h => by cases h; exact .nil
  | d :: ds, _, h => by
    cases h with
    | cons a b => exact .cons (DT.mono s d a) (DTs.mono s ds b)
end
mutual
theorem DT.dp {K : PySem.W.Frag} {H : Hp} : ∀ (d : PyData) {v : V}, DT H v d → Dp K H v d
  | .none, _, h => by cases h; exact .non
  | .bool b, _, h => by cases h; exact .bl b
  | .int i, _, h => by cases h; exact .int i
  | .str x, _, h => by cases h; exact .str x
  | .list ds, _, h => by cases h
  | .tuple ds, _, h => by
    cases h with
    | tup e r => exact .tup (SqT.of e) (DTs.dp ds r)
  | .dict _, _, h => by cases h
theorem DTs.dp {K : PySem.W.Frag} {H : Hp} : ∀ (ds : List PyData) {vs : List V}, DTs H vs ds → DpAll K H vs ds
  | [], _, h => by cases h; exact .nil
  | d :: ds, _, h => by
    cases h with
    | cons a b => exact .cons (DT.dp d a) (DTs.dp ds b)
end
section
variable {H H' : Hp} {v : V} {vs : List V}
theorem DT.to {d : PyData} (h : DT H v d) (s : TSame H H') : DT H' v d := DT.mono s d h
theorem DTs.to {ds : List PyData} (h : DTs H vs ds) (s : TSame H H') : DTs H' vs ds := DTs.mono s ds h
theorem DT.same {d : PyData} (h : DT H v d) (s : Same H H') (_ : PyData := .none) : DT H' v d := h.to (.of s)
theorem DT.keep {p : Addr} {t : Nat} {d : PyData} (h : DT H v d) (hp : Pen H p t) (k : Keep p H H') : DT H' v d := h.to (.keep hp k)
theorem DTs.keep {p : Addr} {t : Nat} {ds : List PyData} (h : DTs H vs ds) (hp : Pen H p t) (k : Keep p H H') : DTs H' vs ds := h.to (.keep hp k)
theorem DTs.len : ∀ {ds : List PyData} {vs : List V}, DTs H vs ds → vs.length = ds.length
  | [], _, h => by cases h; rfl
  | d :: ds, _, h => by
    cases h with
    | cons a b => rw [List.length_cons, List.length_cons, DTs.len b]
theorem DTs.get : ∀ {ds : List PyData} {ws : List V} (i : Nat) (d : PyData), DTs H ws ds → ds[i]? = some d → ∃ v, ws[i]? = some v ∧ DT H v d
  | [], _, _, _, _, e => by cases e
  | _ :: _, _, 0, d', h, e => by
    cases h with
    | cons a b =>
      cases (Option.some.inj e)
      exact ⟨_, rfl, a⟩
  | _ :: ds, _, i + 1, d', h, e => by
    cases h with
    | cons a b => exact DTs.get i d' b (show ds[i]? = some d' from e)
theorem DTs.get' {ds : List PyData} {ws : List V} {i : Nat} {v : V} (h : DTs H ws ds) (e : ws[i]? = some v) : ∃ d, ds[i]? = some d ∧ DT H v d := by
  have hi : i < ds.length := by
    rw [← h.len]
    exact (List.getElem?_eq_some_iff.mp e).1
  obtain ⟨u, e2, k⟩ := DTs.get i _ h (List.getElem?_eq_getElem hi)
  rw [e] at e2
  cases e2
  exact ⟨_, List.getElem?_eq_getElem hi, k⟩
/-- the items are made from a list -/
theorem DTs.map' {α : Type} {f : α → PyData} {as : List α} {ws : List V} {i : Nat} {v : V} (h : DTs H ws (as.map f)) (e : ws[i]? = some v) : ∃ a, as[i]? = some a ∧ DT H v (f a) := by
  obtain ⟨d, hd, k⟩ := h.get' e
  rw [List.getElem?_map] at hd
  obtain ⟨a, ha, rfl⟩ := Option.map_eq_some_iff.mp hd
  exact ⟨a, ha, k⟩
theorem DTs.app : ∀ {ds es : List PyData} {vs ws : List V}, DTs H vs ds → DTs H ws es → DTs H (vs ++ ws) (ds ++ es)
  | [], _, _, _, h, k => by cases h; exact k
  | d :: ds, _, _, _, h, k => by
    cases h with
    | cons a b => exact .cons a (DTs.app b k)
theorem DTs.one {d : PyData} (h : DT H v d) : DTs H [v] [d] := .cons h .nil
theorem DTs.snoc {α : Type} {f : α → PyData} {as : List α} {a : α} (h : DTs H vs (as.map f)) (k : DT H v (f a)) : DTs H (vs ++ [v]) ((as ++ [a]).map f) := by
  rw [List.map_append]
  exact h.app (.one k)
theorem DTs.ints : ∀ ns : List Int, DTs H (ns.map V.int) (ns.map PyData.int)
  | [] => .nil
  | n :: ns => .cons (.int n) (DTs.ints ns)
theorem DT.tup' {ds : List PyData} (h : DT H v (.tuple ds)) : ∃ a xs, v = .ref a ∧ H a = some (.tup xs) ∧ DTs H xs ds := by
  cases h with
  | tup e r => exact ⟨_, _, rfl, e, r⟩
end
def imm : HO → Bool
  | .tup _ => true
  | .ins _ _ _ => true
  | .frz _ (.tup _) => true
  | _ => false
def MS (H H' : Hp) : Prop := ∀ a u, H a = some u → imm u = true → H' a = some u
section
variable {H H1 H2 H' : Hp} {D p : Addr} {o u : HO}
theorem MS.refl (H : Hp) : MS H H := fun _ _ e _ => e
theorem MS.trans (a : MS H H1) (b : MS H1 H2) : MS H H2 := fun c u e i => b c u (a c u e i) i
theorem MS.of (s : Same H H') : MS H H' := fun a u e _ => s a u e
theorem MS.t (s : MS H H') : TSame H H' := fun a xs e => s a _ e rfl
theorem MS.keepO (e : H p = some o) (n : imm o = false) (k : Keep p H H') : MS H H' := fun a w ea i => k a w (fun z => by
  rw [z, e] at ea
  cases ea
  rw [n] at i
  cases i) ea
theorem MS.keep {t : Nat} (h : Pen H p t) (k : Keep p H H') : MS H H' := by
  obtain ⟨c, ns, a, l, e, _⟩ := h
  exact MS.keepO e rfl k
theorem MS.updO (e : H D = some o) (n : imm o = false) : MS H (upd H D u) := MS.keepO e n fun b w nb eb => by
  rw [upd_ne nb]
  exact eb
theorem MS.updL {xs : List V} (e : H D = some (.lst xs)) : MS H (upd H D u) := MS.updO e rfl
theorem MS.updT {kvs : List (List Key × V)} (e : H D = some (.dT kvs)) : MS H (upd H D u) := MS.updO e rfl
theorem MS.new (n : H D = none) : MS H (upd H D u) := MS.of (Same.new _ (Same.refl H) n)
theorem MS.sqT {K : PySem.W.Frag} {a : Addr} {xs : List V} (s : MS H H') (h : SqT K H a xs) : SqT K H' a xs := h.imp (fun r => r.imp (fun e => s _ _ e rfl) fun ⟨o, e⟩ => ⟨o, s _ _ e rfl⟩) id
end
theorem dt3 {H : Hp} {t : Addr} {a b c : Int} (h : H t = some (.tup [.int a, .int b, .int c])) : DT H (.ref t) (.tuple [.int a, .int b, .int c]) := .tup h (.cons (.int _) (.cons (.int _) (.cons (.int _) .nil)))
theorem dt3' {H : Hp} {v : V} {a b c : Int} (h : DT H v (.tuple [.int a, .int b, .int c])) : ∃ t, v = .ref t ∧ H t = some (.tup [.int a, .int b, .int c]) := by
  cases h with
  | tup e r =>
    cases r with
    | cons r1 r =>
      cases r with
      | cons r2 r =>
        cases r with
        | cons r3 r =>
          cases r
          cases r1
          cases r2
          cases r3
          exact ⟨_, rfl, e⟩
theorem dt4' {H : Hp} {v : V} {a b c d : Int} (h : DT H v (.tuple [.int a, .int b, .int c, .int d])) : ∃ t, v = .ref t ∧ H t = some (.tup [.int a, .int b, .int c, .int d]) := by
  cases h with
  | tup e r =>
    cases r with
    | cons r1 r =>
      cases r with
      | cons r2 r =>
        cases r with
        | cons r3 r =>
          cases r with
          | cons r4 r =>
            cases r
            cases r1
            cases r2
            cases r3
            cases r4
            exact ⟨_, rfl, e⟩
end Z
set_option maxHeartbeats 4000000
namespace Z
open PySem PySem.Spec PyProof.Rows L2
open Sem (wp)
open AutoSeq1 (wpAny_loadPart')
/-- the tuple's iterator, and the enumerate behind it -/
abbrev tupIt (l : Addr) : Obj := { cls := .type "tuple_iterator", data := .fields #[.ref l, .int 0 0] }
abbrev enuOb (N : Addr) : Obj := { cls := .type "enumerate", data := .fields #[.none, .bool false, .ref N, rawInt 0, .none, .none] }
abbrev enuHeap (h : Heap) (l : Addr) : Heap := (h.push (tupIt l)).push (enuOb h.objs.size)
section
variable {h : Heap} {l : Addr}
theorem enu_old {b : Addr} {o : Obj} (e : h.get? b = some o) : (enuHeap h l).get? b = some o := Heap.get?_push_of_some _ (Heap.get?_push_of_some _ e)
theorem enu_it : (enuHeap h l).IsTupleIter h.objs.size l 0 := ⟨tupIt l, Heap.get?_push_of_some _ (Heap.get?_push_size h rfl), rfl, rfl⟩
theorem enu_en : IsEnum (enuHeap h l) (h.objs.size + 1) h.objs.size 0 .none := by
  have z := Heap.get?_push_size (h.push (tupIt l)) (o := enuOb h.objs.size) rfl
  rwa [Heap.size_push] at z
end
theorem new_enu {l : Addr} {its : Array Value} {n : Nat} {dd : Option Addr} {sl : Array (Option Value)} :
    Meets (Builtin.«enumerate.__new__» ⟨[.type "enumerate", .ref l], []⟩) fun _ R s => s.heap.get? l = some ⟨.type "tuple", dd, .seq its n, sl⟩ ∧ R (.ok (.ret (.ref (s.heap.push (tupIt l)).objs.size))) { s with heap := enuHeap s.heap l } := by
  refine .of_wp fun prog w A R s z => ?_
  cases s with
  | mk hp g d tk os =>
    have there := z.1
    have isT : Heap.IsTuple (Shared.heap ⟨hp, g, d, tk, os⟩) l its := ⟨_, there, rfl, n, rfl⟩
    have sub := sub_enumerate
    wp_walk using wpAny_loadPart' there
    refine wpAny_stack_any fun st => wpAny_pure ?_
    split
    case h_1 c _ _ _ _ _ => cases (c == Value.type "enumerate") <;> (wp_walk using wpAny_loadPart' there, wpAny_pyIter_tuple isT; exact ⟨_, rfl, z.2⟩)
    case h_2 => wp_walk using wpAny_loadPart' there, wpAny_pyIter_tuple isT; exact ⟨_, rfl, z.2⟩
theorem call_enu {prog : PySem.Program} {w : World} {A : Around} {E : Value → Shared → Prop} {s : Shared} {l : Addr} {its : Array Value} {Q : Value → Shared → Prop} (isT : s.heap.IsTuple l its) (k : Q (.ref (s.heap.objs.size + 1)) { s with heap := enuHeap s.heap l }) :
    wpAny (model prog w) A (call (.type "enumerate") [.ref l]) Q E s := by
  obtain ⟨⟨oc, od, dt, sl⟩, there, cls, n, dat⟩ := isT
  cases (show oc = .type "tuple" from cls)
  cases (show dt = .seq its n from dat)
  refine callType_new F.called_enumerate (by decide) (F.typeCall_enumerate_1 _) (F.newCall_enumerate_1 _) (fun obj => F.args_object_init_2 obj _) F.entry_enumerate_new new_enu ⟨there, ?_⟩
  have N : (s.heap.push (tupIt l)).objs.size = s.heap.objs.size + 1 := Heap.size_push ..
  show _ ∧ _
  rw [N]
  exact ⟨⟨_, enu_en, rfl⟩, k⟩
/-- the tuple at a, each item in a new pair -/
def Iet (K : PySem.W.Frag) (a : Addr) : It where
  go i H := ∃ (xs : List V) (x : V), SqT K H a xs ∧ xs[i]? = some x
  yld i H v H' := ∃ T x, v = .ref T ∧ H T = none ∧ H' = upd H T (.tup [.int (i : Nat), x]) ∧ ∀ xs, SqT K H a xs → xs[i]? = some x
  stop i H := ∃ xs : List V, SqT K H a xs ∧ xs.length = i
/-- how the two stand ahead of turn i -/
def EnAt (a e it : Addr) (i : Nat) (h : Heap) : Prop := (∃ old, IsEnum h e it (i : Int) old) ∧ h.IsTupleIter it a i ∧ e ≠ it
section
variable {a e it : Addr} {i : Nat} {h h' : Heap}
theorem EnAt.objs (z : EnAt a e it i h) : (∃ o, h.get? e = some o ∧ ∀ v, o.data ≠ .cell v) ∧ ∃ o, h.get? it = some o ∧ ∀ v, o.data ≠ .cell v := by
  obtain ⟨⟨old, z1⟩, ⟨o, z2, _, z3⟩, _⟩ := z
  exact ⟨⟨_, z1, fun v y => Data.noConfusion y⟩, o, z2, fun v y => Data.noConfusion (z3.symm.trans y)⟩
theorem EnAt.move (z : EnAt a e it i h) (k : ∀ b, b = e ∨ b = it → ∀ o, h.get? b = some o → h'.get? b = some o) : EnAt a e it i h' := by
  obtain ⟨⟨old, z1⟩, z2, z3⟩ := z
  exact ⟨⟨old, k e (.inl rfl) _ z1⟩, z2.at (k it (.inr rfl)), z3⟩
/-- a tuple is neither of the two -/
theorem EnAt.other {its : Array Value} (z : EnAt a e it i h) (isT : h.IsTuple a its) : a ≠ e ∧ a ≠ it := by
  obtain ⟨⟨old, z1⟩, ⟨o, z2, z3, _⟩, _⟩ := z
  obtain ⟨u, y1, y2, _⟩ := isT
  refine ⟨fun eq => ?_, fun eq => ?_⟩
  · subst eq
    rw [z1] at y1
    cases y1
    exact absurd (Value.type.inj y2) (by decide)
  · subst eq
    rw [z2] at y1
    cases y1
    exact absurd (Value.type.inj (z3.symm.trans y2)) (by decide)
end
theorem two_mem {b e it : Addr} (h : b ∈ [e, it]) : b = e ∨ b = it := by simpa using h
theorem turn_enu {P : Program} {w : World} {K : PySem.W.Frag} {elts : List Expr} {kk : Nat} {tpos : Pos} (a e it : Addr) : Turn P w K (.Tuple elts kk tpos) (Iet K a) [e, it] e (EnAt a e it) := by
  refine ⟨List.mem_cons_self, fun i h z b hb => ?_, fun i h h' z k => z.move fun b hb o q => k b (by rcases hb with rfl | rfl <;> simp) o q, ?_, ?_, fun A i s Q E z q => ?_⟩
  · rcases two_mem hb with rfl | rfl
    · exact z.objs.1
    · exact z.objs.2
  · rintro X rfl rfl rfl hc i pins s σ H E I aside z ⟨xs, x, hq, hx⟩
    obtain ⟨its, rv, isT, _⟩ := I.tuple hq
    have isT : s.heap.IsTuple a its.toArray := isT
    obtain ⟨u, hu, ru⟩ := rv.get hx
    obtain ⟨na, nt⟩ := z.other isT
    obtain ⟨⟨old, isE⟩, isI, net⟩ := id z
    have old_e := Heap.lt_size isE
    have old_it : it < s.heap.objs.size := by
      obtain ⟨o, q, _⟩ := isI
      exact Heap.lt_size q
    have drawn := Draws.tuple (prog := X.prog) (w := X.w) (A := X.A.in1) (show X.A.in1.handled = none from I.ok.hd hc) it a nt its.toArray
    have few : i < its.toArray.size := by simpa using (List.getElem?_eq_some_iff.mp hu).1
    refine wpAny_pyNext_enum_itemD drawn isE ⟨isI, isT⟩ few net (fun y => ?_) fun y h1 tk hy out st1 new1 _ kept1 => ?_
    · rcases (show e = it ∨ e = a by simpa using y) with y | y
      · exact net y
      · exact na y.symm
    obtain rfl : y = u := by
      have hy : its.toArray[i]? = some y := hy
      rw [List.getElem?_toArray, hu] at hy
      exact (Option.some.inj hy).symm
    refine ⟨_, rfl, wpAny_letOwnedTupleGo_enum (s := { s with heap := h1, toks := tk + 1 }) out fun h2 isE2 same2 => ?_⟩
    have pair : h2.get? s.heap.objs.size = some { cls := .type "tuple", data := .seq #[.int i tk, y] } := by rw [same2.2 _ (Nat.ne_of_gt old_e)]; exact new1
    have I2 : Inv X pins σ (upd H s.heap.objs.size (.tup [.int (i : Nat), x])) { s with heap := h2, toks := tk + 1 } := by
      refine I.turnedNew (ch := [e, it]) (fun b o nb q => ?_) aside (Nat.le_refl _) ⟨by show 2 ≤ sizeLine; decide, _, .cons ⟨tk, rfl⟩ (.cons ru .nil), _, pair, rfl, _, rfl⟩
      have n1 : b ≠ e := fun y => nb (by rw [y]; exact List.mem_cons_self)
      have n2 : b ≠ it := fun y => nb (by rw [y]; exact List.mem_cons_of_mem _ List.mem_cons_self)
      rw [same2.2 b n1]
      exact kept1 b o n1 n2 q
    refine ⟨.ref s.heap.objs.size, _, I2, rfl, ⟨_, x, rfl, I.hok.fresh (Nat.le_refl _), rfl, fun ys hy => I.tuple_inj hy hq ▸ hx⟩, ⟨⟨y, ?_⟩, st1.1.at fun o q => by rw [same2.2 it net.symm]; exact q, net⟩, fun b hb => ?_⟩
    · rw [Int.natCast_add, Int.natCast_one]
      exact isE2
    · have lt : b < s.heap.objs.size := by
        rcases two_mem hb with rfl | rfl
        · exact old_e
        · exact old_it
      rw [upd_ne (Nat.ne_of_lt lt)]
      exact (aside b hb).1
  · rintro X rfl rfl rfl hc i pins s σ H E I aside z ⟨xs, hq, hx⟩
    obtain ⟨its, rv, isT, _⟩ := I.tuple hq
    have isT : s.heap.IsTuple a its.toArray := isT
    have nt := (z.other isT).2
    obtain ⟨⟨old, isE⟩, isI, _⟩ := z
    have len := rv.length
    have end_ : its.toArray.size = i := by rw [List.size_toArray]; omega
    have drawn := Draws.tuple (prog := X.prog) (w := X.w) (A := X.A.in1) (show X.A.in1.handled = none from I.ok.hd hc) it a nt its.toArray
    rw [end_] at drawn
    obtain ⟨free, nl, nf, mine, cells, pinned⟩ := aside it (List.mem_cons_of_mem _ List.mem_cons_self)
    exact wpAny_pyNext_enum_endD drawn isE ⟨isI, isT⟩ fun h1 ext => ⟨rfl, I.turned (t' := s.toks) (fun b o nb q => ext b o nb q) free nl mine cells pinned⟩
  · obtain ⟨⟨old, isE⟩, _⟩ := z
    exact wpAny_pyIter_enum isE q
def iEnumT (K : PySem.W.Frag) (ta : TA) : TI := fun σ H R => ta σ H fun vs H1 => ∃ a xs, vs = [.ref a] ∧ SqT K H1 a xs ∧ R (Iet K a) H1
theorem pi_enumT {X : Cx} {e : Expr} {ta : TA} {p pos tpos : Pos} {elts : List Expr} {kk : Nat} (hg : Gl X "enumerate") (hm : X.mg "enumerate" = none) (ha : PA X [e] ta) (hs : starEach [e] X.env = [(false, eval e X.env)] := by rfl) :
    PI X (.Tuple elts kk tpos) (.Call (.Name "enumerate" p) [e] [] pos) (iEnumT X.K ta) where
  run pins s σ H R I h := by
    refine Call_ (ld_blt I hg hm boot_enumerate (PyProof.Rows.callWith_type1 (thn (ha.run pos pins s σ H _ I h) fun us s1 got => ?_) hs rfl))
    obtain ⟨vs, H1, I1, rel, a, xs, rfl, hq, q⟩ := got
    match us, rel with
    | [_], .cons rel .nil =>
      cases rel
      obtain ⟨its, _, isT, _⟩ := I1.tuple hq
      refine call_enu (show s1.heap.IsTuple a its.toArray from isT) (wpAny_pyIter_enum enu_en ?_)
      have I2 : Inv X pins σ H1 { s1 with heap := enuHeap s1.heap a } := I1.kept (t' := s1.toks) fun b o e => enu_old e
      refine ⟨_, [s1.heap.objs.size + 1, s1.heap.objs.size], _, _, H1, rfl, I2, turn_enu a _ s1.heap.objs.size, ⟨⟨_, enu_en⟩, enu_it, Nat.succ_ne_self _⟩, fun b hb => ?_, q⟩
      have ge : s1.heap.objs.size ≤ b := by
        rcases two_mem hb with rfl | rfl
        · exact Nat.le_succ _
        · exact Nat.le_refl _
      exact I1.fpOk ge (I1.hok.fresh ge)
theorem walk_enumT {K : PySem.W.Frag} {a : Addr} {xs : List V} : Walk (Iet K a) xs.length (fun H => SqT K H a xs) (YPair (fun i => some (.int (i : Nat))) (fun i => xs[i]?)) where
  goes i H lt q := ⟨xs, xs[i], q, List.getElem?_eq_getElem lt⟩
  stops H q := ⟨xs, q, rfl⟩
  yields i H v H' _ q := fun ⟨T, x, e1, e2, e3, e4⟩ => ⟨T, .int (i : Nat), x, e1, e2, e3, rfl, e4 xs q⟩
end Z
set_option maxHeartbeats 4000000
namespace Z
open PySem PySem.Spec PyProof.Rows L2
theorem lc_rangeC {lo c : Int} {n : Nat} {g : TG} {tt : TT} {te : TE} {vs : List Nat} {σ : L2.St} {H1 : Hp} {D : Addr} {Qd : Hp → Prop} (Pv : Nat → Hp → Prop) (h0 : Pv 0 (upd H1 D (.lst [])))
    (hs : ∀ i H, i < n → Pv i H → g (.int (lo + (i : Nat) * c)) (wipe σ vs) H fun σ2 H2 => wipe σ2 vs = wipe σ vs ∧ tt σ2 H2 fun b H3 =>
      if b = true then te σ2 H3 fun y H4 => ∃ acc, H4 D = some (.lst acc) ∧ acc.length < sizeLine ∧ Pv (i + 1) (upd H4 D (.lst (acc ++ [y]))) else Pv (i + 1) H3) (hd : ∀ H, Pv n H → Qd H) :
    ∃ W : Nat → Nat → Hp → Prop, (∃ m, W 0 m (upd H1 D (.lst []))) ∧ ∀ i m H, W i m H →
      ((Itc lo c n).stop i H ∧ Qd H) ∨ ((Itc lo c n).go i H ∧ ∃ Nx : Hp → Prop, (∀ H', Nx H' → ∃ m', m' < m ∧ W (i + 1) m' H') ∧ ∀ x H', (Itc lo c n).yld i H x H' → g x (wipe σ vs) H' fun σ2 H2 => wipe σ2 vs = wipe σ vs ∧ tt σ2 H2 fun b H3 =>
        if b = true then te σ2 H3 fun y H4 => ∃ acc, H4 D = some (.lst acc) ∧ acc.length < sizeLine ∧ Nx (upd H4 D (.lst (acc ++ [y]))) else Nx H3) := by
  refine ⟨fun i m H => m = n - i ∧ i ≤ n ∧ Pv i H, ⟨n, by simp, Nat.zero_le _, h0⟩, ?_⟩
  rintro i m H ⟨rfl, hi, p⟩
  by_cases hlt : i < n
  · refine .inr ⟨hlt, Pv (i + 1), fun H' p' => ⟨n - (i + 1), by omega, rfl, hlt, p'⟩, fun x H' y => ?_⟩
    obtain ⟨e, y⟩ := y
    subst e y
    exact hs i _ hlt p
  · have e : i = n := by omega
    subst e
    exact .inl ⟨Nat.le_refl _, hd H p⟩
/-- how many numbers a range with a step has -/
def rn_ (lo hi c : Int) : Int := Builtin.Range.rangeSize lo hi c
theorem rn_pos {lo hi c : Int} (hc : 1 ≤ c) : rn_ lo hi c = if lo < hi then (hi - lo - 1) / c + 1 else 0 := by
  unfold rn_ Builtin.Range.rangeSize
  rw [if_pos (by omega)]
theorem rn_nn {lo hi c : Int} (hc : 1 ≤ c) : 0 ≤ rn_ lo hi c := by
  rw [rn_pos hc]
  split
  · have := Int.ediv_nonneg (show 0 ≤ hi - lo - 1 by omega) (show 0 ≤ c by omega)
    omega
  · exact Int.le_refl 0
/-- the count of the turns from l on -/
theorem turns_eq {l h S : Int} (hS : 1 ≤ S) : (if -((l - h).fdiv S) > 0 then -((l - h).fdiv S) else 0) = rn_ l h S := by
  rw [rn_pos hS, fe (show 0 < S by omega)]
  by_cases c : l < h
  · rw [if_pos c]
    have e : (l - h) / S = -((h - l - 1) / S) - 1 := by
      have h1 := Int.emod_add_mul_ediv (h - l - 1) S
      have h2 := Int.emod_nonneg (h - l - 1) (show S ≠ 0 by omega)
      have h3 := Int.emod_lt_of_pos (h - l - 1) (show 0 < S by omega)
      have h4 : l - h = (S - 1 - (h - l - 1) % S) + S * (-((h - l - 1) / S) - 1) := by
        rw [Int.mul_sub, Int.mul_neg, Int.mul_one]
        omega
      rw [h4, Int.add_mul_ediv_left _ _ (show S ≠ 0 by omega), Int.ediv_eq_zero_of_lt (by omega) (by omega)]
      omega
    have n := Int.ediv_nonneg (show 0 ≤ h - l - 1 by omega) (show 0 ≤ S by omega)
    rw [e, if_pos (by omega)]
    omega
  · rw [if_neg c]
    have n := Int.ediv_nonneg (show 0 ≤ l - h by omega) (show 0 ≤ S by omega)
    rw [if_neg (by omega)]
/-- the numbers of the walk that are not below 0 -/
def walk (lo c : Int) (i : Nat) : List Int := ((List.range i).map fun (j : Nat) => lo + (j : Int) * c).filter fun x => decide (0 ≤ x)
theorem walk_succ (lo c : Int) (i : Nat) : walk lo c (i + 1) = if 0 ≤ lo + (i : Int) * c then walk lo c i ++ [lo + (i : Int) * c] else walk lo c i := by
  unfold walk
  rw [List.range_succ, List.map_append, List.filter_append]
  by_cases h : 0 ≤ lo + (i : Int) * c
  · rw [if_pos h]
    simp [h]
  · rw [if_neg h]
    simp [h]
/-- from the place k on, at which the least counter stands -/
theorem walk_eq {lo c l : Int} {k : Nat} (hc : 1 ≤ c) (h0 : 0 ≤ l) (hk : l = lo + (k : Int) * c) (hl : k = 0 ∨ l < c) : ∀ i, walk lo c i = (List.range (i - k)).map fun (j : Nat) => l + (j : Int) * c
  | 0 => by
    rw [Nat.zero_sub]
    rfl
  | i + 1 => by
    rw [walk_succ, walk_eq hc h0 hk hl i]
    by_cases h : k ≤ i
    · have e : lo + (i : Int) * c = l + ((i - k : Nat) : Int) * c := by
        rw [hk, Int.natCast_sub h, Int.sub_mul]
        omega
      have nn : 0 ≤ ((i - k : Nat) : Int) * c := Int.mul_nonneg (by omega) (by omega)
      rw [e, if_pos (by omega), Nat.succ_sub h, List.range_succ, List.map_append]
      rfl
    · have h1 : k ≠ 0 := by omega
      have h2 : l < c := hl.resolve_left h1
      have e : lo + (i : Int) * c < 0 := by
        have e2 : (i : Int) * c ≤ ((k : Int) - 1) * c := Int.mul_le_mul_of_nonneg_right (by omega) (by omega)
        rw [Int.sub_mul, Int.one_mul] at e2
        omega
      rw [if_neg (by omega), show i + 1 - k = 0 by omega, show i - k = 0 by omega]
end Z
namespace Z
open PySem PySem.Spec PyProof.Rows L2
theorem rgc_pos {i j c : Int} (hc : 1 ≤ c) (hc2 : c ≤ 100) (a1 : -(2 ^ 40) ≤ i) (a2 : i ≤ 2 ^ 40) (b1 : -(2 ^ 40) ≤ j) (b2 : j ≤ 2 ^ 40) : RgC i j c (rn_ i j c).toNat := by
  have nn := rn_nn (lo := i) (hi := j) hc
  refine ⟨by omega, by omega, ?_, by show rn_ i j c = _; omega⟩
  have lt : rn_ i j c ≤ 2 ^ 42 := by
    rw [rn_pos hc]
    split
    · have := Int.ediv_le_self c (show 0 ≤ j - i - 1 by omega)
      omega
    · omega
  unfold Builtin.Range.small
  have e : Builtin.Range.rangeSize i j c = rn_ i j c := rfl
  rw [e]
  simp only [Builtin.Range.rangeFitsLong, Bool.and_eq_true, Bool.or_eq_true, decide_eq_true_eq, beq_iff_eq]
  rw [if_pos (show c > 0 by omega)]
  simp only [Bool.and_eq_true, decide_eq_true_eq]
  exact ⟨by omega, .inr (by omega)⟩
end Z
set_option maxHeartbeats 4000000
namespace K28
open PySem PySem.Spec PyProof.Rows L2 Z
theorem PenC.mono {H : Hp} {p pc : Addr} {t t' : Nat} (h : PenC H p pc t) (e : t ≤ t') : PenC H p pc t' := by
  obtain ⟨ns, a, l, h1, h2, h3, h4, h5, h6⟩ := h
  exact ⟨ns, a, l, h1, h2, h3, h4, by omega, h6⟩
theorem PenC.ne {H : Hp} {p pc a : Addr} {t : Nat} {o : HO} (h : PenC H p pc t) (e : H a = some o) (d : ∀ kvs, o ≠ .dK kvs) : a ≠ p := h.pen.ne e d
theorem PenC.ne' {H : Hp} {p pc a : Addr} {t : Nat} (h : PenC H p pc t) (e : H a = none) : p ≠ a := by
  obtain ⟨ns, x, l, h1, _⟩ := h
  exact ne_of_none h1 e
theorem PenC.lst {H H' : Hp} {p pc a : Addr} {t : Nat} {xs : List V} (h : PenC H p pc t) (k : Keep p H H') (e : H a = some (.lst xs)) : H' a = some (.lst xs) := k _ _ (h.ne e fun _ z => by cases z) e
theorem PenC.tup {H H' : Hp} {p pc a : Addr} {t : Nat} {xs : List V} (h : PenC H p pc t) (k : Keep p H H') (e : H a = some (.tup xs)) : H' a = some (.tup xs) := k _ _ (h.ne e fun _ z => by cases z) e
theorem PenC.same {H H' : Hp} {p pc : Addr} {t : Nat} (h : PenC H p pc t) (s : Same H H') : PenC H' p pc t := by
  obtain ⟨ns, a, l, h1, h2, h3⟩ := h
  exact ⟨ns, a, l, s _ _ h1, s _ _ h2, h3⟩
theorem PenC.upd {H : Hp} {p pc D : Addr} {t t' : Nat} {o : HO} (h : PenC H p pc t) (n1 : D ≠ p) (n2 : D ≠ pc) (ht : t ≤ t') : PenC (upd H D o) p pc t' := by
  obtain ⟨ns, a, l, h1, h2, h3, h4, h5, h6⟩ := h
  exact ⟨ns, a, l, by rw [upd_ne n1.symm]; exact h1, by rw [upd_ne n2.symm]; exact h2, h3, h4, by omega, h6⟩
theorem _root_.Z.DT.keepC {H H' : Hp} {v : V} {p pc : Addr} {t : Nat} {d : PyData} (h : DT H v d) (hp : PenC H p pc t) (k : Keep p H H') : DT H' v d := h.keep hp.pen k
theorem _root_.Z.DTs.keepC {H H' : Hp} {vs : List V} {p pc : Addr} {t : Nat} {ds : List PyData} (h : DTs H vs ds) (hp : PenC H p pc t) (k : Keep p H H') : DTs H' vs ds := h.keep hp.pen k
theorem _root_.Z.TSame.keepC {H H' : Hp} {p pc : Addr} {t : Nat} (h : PenC H p pc t) (k : Keep p H H') : TSame H H' := TSame.keep h.pen k
theorem ix_tupK {X : Cx} {K : PySem.W.Frag} (hK : X.K = K) : IxR X (rIxT K) := hK ▸ ix_tup
structure LwTx (K : PySem.W.Frag) (mg : Str → Option Value) : Prop extends PrTx K mg where
  list : mg "list" = none
  range : mg "range" = none
  max : mg "max" = none
  min : mg "min" = none
  sum : mg "sum" = none
  enumerate : mg "enumerate" = none
theorem LwTx.bt {K : PySem.W.Frag} {mg : Str → Option Value} (T : LwTx K mg) : Bt mg := ⟨T.int, T.len, T.list⟩
theorem text_len {n : Int} (h0 : 0 ≤ n) (h1 : n < 10 ^ 40) : (PySem.Str.ofString (toString n)).length ≤ 40 := by
  rw [PyProof.Rows.ofString_len]
  cases n with
  | ofNat m =>
    show (Nat.repr m).length ≤ 40
    have h2 : m < 10 ^ 40 := by
      have e : ((m : Nat) : Int) < 10 ^ 40 := h1
      omega
    exact (Nat.length_repr_le_iff (n := m) (by decide : 0 < 40)).mpr h2
  | negSucc m => exact absurd h0 (Int.not_le.mpr (Int.negSucc_lt_zero m))
theorem text_log {n : Int} (h0 : 0 ≤ n) (h1 : n < 10 ^ 40) : n.natAbs.log2 < 1920 := by
  have h2 : n.natAbs < 2 ^ 200 := by
    have : (10 : Int) ^ 40 < 2 ^ 200 := by decide +kernel
    omega
  by_cases h : n.natAbs = 0
  · rw [h]
    decide
  · exact Nat.lt_of_lt_of_le ((Nat.log2_lt h).mpr h2) (by decide)
def spBigG : Sp := fun vs H Q _ => ∃ (p pc : Addr) (M : Int) (t : Nat), vs = [.ref p, .int M] ∧ 0 < M ∧ M < 10 ^ 40 ∧ t < 900000000 ∧ PenC H p pc t ∧ ∀ H' (d : Int), 0 ≤ d → d < M → PenC H' p pc (t + 20) → Keep p H H' → Q (.int d) H'
def spBetween : Sp := fun vs H Q _ => ∃ (p pc : Addr) (lo hi : Int) (t : Nat), vs = [.ref p, .int lo, .int hi] ∧ lo ≤ hi ∧ hi - lo < 100000 ∧ t < 900000000 ∧ PenC H p pc t ∧ ∀ H' (d : Int), lo ≤ d → d ≤ hi → PenC H' p pc (t + 2) → Keep p H H' → Q (.int d) H'
def spName : Sp := fun vs H Q _ => ∃ (p pc : Addr) (t : Nat), vs = [.ref p] ∧ t < 900000000 ∧ PenC H p pc t ∧ ∀ H' (x : Str), isName x = true → x.length ≤ 8 → PenC H' p pc (t + 9) → Keep p H H' → Q (.str x) H'
theorem mid {S1 S2 : TS} {D : Ends} {σ : L2.St} {H : Hp} (W2 : L2.St → Hp → Prop) (h1 : (∀ σ' H', W2 σ' H' → S2 D σ' H') → tSeq S1 S2 D σ H) (h2 : ∀ σ' H', W2 σ' H' → S2 D σ' H') : tSeq S1 S2 D σ H := h1 h2
theorem sz4 : 4 ≤ sizeLine := by show 4 ≤ sizeLine; decide
theorem at0 {x : V} {l : List V} : atI (x :: l) 0 = some x := atI_nat (xs := x :: l) (j := 0) rfl
theorem at1 {x y : V} {l : List V} : atI (x :: y :: l) 1 = some y := atI_nat (xs := x :: y :: l) (j := 1) rfl
theorem at2 {x y z : V} {l : List V} : atI (x :: y :: z :: l) 2 = some z := atI_nat (xs := x :: y :: z :: l) (j := 2) rfl
theorem join_nil (l : List (List Nat)) : TL.joinL [] l = l.flatten := by
  induction l with
  | nil => rfl
  | cons p l ih =>
    cases l with
    | nil => simp [TL.joinL]
    | cons q r =>
      show p ++ ([] ++ TL.joinL [] (q :: r)) = _
      rw [ih]
      rfl
section
variable {P : Program} {w : World} {K : PySem.W.Frag} {mg : Str → Option Value} {base : Heap}
theorem sc_law_big : FnScope ["_law_pen_here", "_law_many", "_law_found", "_law_k"] ["_law_pen_here", "_law_many"] (defScope s_law_big) := ⟨rfl, rfl, rfl, by decide +kernel, rfl, by decide +kernel, by decide +kernel⟩
theorem ok_bigG {f : Addr} {fd : FuncData} (F : FnP K "_law_big" s_law_big f fd) (T : LwTx K mg) (dDraw : Dn P w K mg base 1 "_law_draw" ["_law_pen_here", "_law_many"] spDrawC) : FnOk P w K mg base CX0 2 f fd ["_law_pen_here", "_law_many"] spBigG := by
  refine F.ok sc_law_big (fun vs H Q E h => ?_) (fun cdv A outer s H vs Q E hr h => ?_)
  · obtain ⟨p, pc, M, t, rfl, _⟩ := h
    rfl
  · obtain ⟨p, pc, M, t, rfl, M0, M1, ht, hP, k⟩ := h
    refine ⟨_, PSs.nox (pss_cons (ps_set (i := 2) sc_law_big.nd rfl (Or.inl rfl) pe_int)
      (pss_cons (ps_for PassesOwn.never rfl (pi_range1 (by rfl) T.range (pa_cons (pe_op op_add (pe_op op_fdivN (pe_callB call_len_str (by rfl) T.len PySem.boot_len (pa_cons (pe_callTy call_str_int (by rfl) T.str (by decide +kernel) (pa_cons (pv 1) pa_nil)) pa_nil)) pe_int) pe_int) pa_nil)) (pg_name (i := 3) sc_law_big.nd rfl (.inl rfl)) (pss_one (ps_set (i := 2) sc_law_big.nd rfl (Or.inl rfl) (pe_op op_add (pe_op op_mul (pv 2) (pe_op op_pow pe_int pe_int)) (pe_dn dDraw hr (pa_cons (pv 0) (pa_cons (pe_op op_pow pe_int pe_int) pa_nil)))))))
      (pss_one (ps_ret (pe_op op_modN (pe_callTy call_int1 (by rfl) T.int (by decide +kernel) (pa_cons (pv 2) pa_nil)) (pv 1)))))), ?_⟩
    have tl := text_len (n := M) (by omega) M1
    have szl : 1000 ≤ sizeLine := by show 1000 ≤ sizeLine; decide
    refine ⟨_, rfl, ?_⟩
    refine ⟨_, rfl, text_log (by omega) M1, _, rfl, Nat.le_trans tl (by omega), _, _, rfl, rfl, ⟨by decide, by decide⟩, _, _, rfl, rfl, ?_⟩
    obtain ⟨q, hq⟩ : ∃ q : Nat, (q : Int) = (((PySem.Str.ofString (toString M)).length : Nat) : Int).fdiv 6 + 2 := by
      have e := Int.fdiv_eq_ediv_of_nonneg (((PySem.Str.ofString (toString M)).length : Nat) : Int) (show (0 : Int) ≤ 6 by decide)
      rw [e]
      exact ⟨((((PySem.Str.ofString (toString M)).length : Nat) : Int) / 6 + 2).toNat, by omega⟩
    have hq8 : q ≤ 20 := by
      have e := Int.fdiv_eq_ediv_of_nonneg (((PySem.Str.ofString (toString M)).length : Nat) : Int) (show (0 : Int) ≤ 6 by decide)
      rw [e] at hq
      omega
    refine ⟨(q : Int), congrArg (fun z => [V.int z]) hq.symm, by omega, by omega, ?_⟩
    rw [Int.toNat_natCast]
    refine for_range (lo := 0) (n := q) (fun i σ H' => ∃ (x : Int) (v : Option V), σ = [some (.ref p), some (.int M), some (.int x), v] ∧ 0 ≤ x ∧ PenC H' p pc (t + i) ∧ Keep p H H') ⟨0, _, rfl, by decide, hP, Keep.refl _ _⟩ ?_ ?_
    · rintro i σ H2 hi ⟨x, v, rfl, hx, hP2, kp⟩
      refine ⟨_, rfl, _, _, rfl, rfl, ⟨by decide, by decide, by decide⟩, _, _, rfl, rfl, .inr ⟨by decide, by decide⟩, ?_⟩
      refine ⟨_, rfl, _, _, rfl, rfl, ⟨by decide, by decide, by decide⟩, p, _, t + i, pc, rfl, by decide, by decide, by omega, hP2, fun H3 d d0 d1 hP3 kp3 => ?_⟩
      have hx2 : 0 ≤ x * 10 ^ (6 : Int).toNat := Int.mul_nonneg hx (by decide)
      exact ⟨_, _, rfl, rfl, _, _, rfl, by omega, hP3, kp.trans kp3⟩
    · rintro σ H2 ⟨x, v, rfl, hx, hP2, kp⟩
      refine ⟨_, rfl, .inl ⟨_, rfl, _, rfl, _, _, rfl, rfl, by omega, ?_⟩⟩
      exact k _ _ (fmod_range M0).1 (fmod_range M0).2 (hP2.mono (by omega)) kp
theorem sc_law_between : FnScope ["_law_pen_here", "_law_least", "_law_most", "_law_way", "_law_found"] ["_law_pen_here", "_law_least", "_law_most"] (defScope s_law_between) := ⟨rfl, rfl, rfl, by decide +kernel, rfl, by decide +kernel, by decide +kernel⟩
theorem ok_between {f : Addr} {fd : FuncData} (F : FnP K "_law_between" s_law_between f fd) (T : LwTx K mg) (dDraw : Dn P w K mg base 1 "_law_draw" ["_law_pen_here", "_law_many"] spDrawC) : FnOk P w K mg base CX0 2 f fd ["_law_pen_here", "_law_least", "_law_most"] spBetween := by
  refine F.ok sc_law_between (fun vs H Q E h => ?_) (fun cdv A outer s H vs Q E hr h => ?_)
  · obtain ⟨p, pc, lo, hi, t, rfl, _⟩ := h
    rfl
  · obtain ⟨p, pc, lo, hi, t, rfl, hlh, hsm, ht, hP, k⟩ := h
    refine ⟨_, PSs.nox (pss_cons (ps_set (i := 3) sc_law_between.nd rfl (Or.inl rfl) (pe_dn dDraw hr (pa_cons (pv 0) (pa_cons pe_int pa_nil))))
      (pss_cons (ps_if (pt_cmpR op_lt (pv 3) pe_int (nomark _)) (pss_one (ps_set (i := 4) sc_law_between.nd rfl (Or.inl rfl) (pe_op op_sub (pe_dn dDraw hr (pa_cons (pv 0) (pa_cons pe_int pa_nil))) pe_int))) (pss_one (ps_if (pt_cmpR op_eq (pv 3) pe_int (nomark _)) (pss_one (ps_set (i := 4) sc_law_between.nd rfl (Or.inl rfl) (pe_ix ix_list (pe_lst (pa_cons (pv 1) (pa_cons (pv 2) (pa_cons (pe_op op_add (pv 1) pe_int) (pa_cons (pe_op op_sub (pv 2) pe_int) pa_nil))))) (pe_dn dDraw hr (pa_cons (pv 0) (pa_cons pe_int pa_nil))) (fun _ _ => rfl)))) (pss_one (ps_set (i := 4) sc_law_between.nd rfl (Or.inl rfl) (pe_op op_add (pv 1) (pe_dn dDraw hr (pa_cons (pv 0) (pa_cons (pe_op op_add (pe_op op_sub (pv 2) (pv 1)) pe_int) pa_nil)))))))))
      (pss_one (ps_ret (pe_callB (call_max2 rfl) (by rfl) T.max (by decide +kernel) (pa_cons (pv 1) (pa_cons (pe_callB (call_min2 rfl) (by rfl) T.min (by decide +kernel) (pa_cons (pv 2) (pa_cons (pv 4) pa_nil))) pa_nil))))))), ?_⟩
    refine ⟨_, rfl, p, 4, t, pc, rfl, by decide, by decide, by omega, hP, fun H1 e e0 e1 hP1 k1 => ?_⟩
    refine normG (σ' := [some (.ref p), some (.int lo), some (.int hi), some (.int e), none]) rfl ?_
    dsimp only
    refine mid (fun σ' H' => ∃ x, σ' = [some (.ref p), some (.int lo), some (.int hi), some (.int e), some (.int x)] ∧ PenC H' p pc (t + 2) ∧ Keep p H H') (fun key => ?_) ?_
    · refine ⟨_, rfl, _, _, rfl, rfl, _, rfl, ite2 (fun _ => ?_) (fun _ => ?_)⟩
      · exact ⟨_, rfl, p, 7, t + 1, pc, rfl, by decide, by decide, by omega, hP1, fun H2 d d0 d1 hP2 k2 => ⟨_, _, rfl, rfl, key _ _ ⟨_, rfl, hP2.mono (by omega), k1.trans k2⟩⟩⟩
      · refine ⟨_, rfl, rfl, _, rfl, ite2 (fun _ => ?_) (fun _ => ?_)⟩
        · refine ⟨_, rfl, _, rfl, _, rfl, _, _, rfl, rfl, _, rfl, _, _, rfl, rfl, sz4, fun l hl => ?_⟩
          have s2 := Same.new (.lst [.int lo, .int hi, .int (lo + 1), .int (hi - 1)]) (Same.refl H1) hl
          refine ⟨_, rfl, p, 4, t + 1, pc, rfl, by decide, by decide, by omega, hP1.same s2, fun H2 d d0 d1 hP2 k2 => ?_⟩
          have hL2 := k2 _ _ ((hP1.same s2).ne (upd_same (H := H1) (a := l)) fun _ z => by cases z) (upd_same (H := H1) (a := l))
          obtain ⟨j, rfl⟩ : ∃ j : Nat, d = (j : Int) := ⟨d.toNat, by omega⟩
          have hv : ∃ v : Int, ([.int lo, .int hi, .int (lo + 1), .int (hi - 1)] : List V)[j]? = some (.int v) := by
            have h4 : j < 4 := by omega
            match j, h4 with
            | 0, _ => exact ⟨_, rfl⟩
            | 1, _ => exact ⟨_, rfl⟩
            | 2, _ => exact ⟨_, rfl⟩
            | 3, _ => exact ⟨_, rfl⟩
          obtain ⟨v, hv⟩ := hv
          exact ⟨l, _, _, _, rfl, rfl, SqL.of hL2, atI_nat hv, key _ _ ⟨_, rfl, hP2.mono (by omega), k1.trans ((Keep.of s2).trans k2)⟩⟩
        · refine ⟨_, rfl, _, rfl, _, rfl, _, rfl, _, _, rfl, rfl, _, _, rfl, rfl, p, hi - lo + 1, t + 1, pc, rfl, by omega, by omega, by omega, hP1, fun H2 d d0 d1 hP2 k2 => ?_⟩
          exact ⟨_, _, rfl, rfl, key _ _ ⟨_, rfl, hP2.mono (by omega), k1.trans k2⟩⟩
    rintro σ H2 ⟨x, rfl, hP2, k2⟩
    refine ⟨_, rfl, _, rfl, _, rfl, _, _, rfl, _, _, rfl, ?_⟩
    refine k _ _ ?_ ?_ hP2 k2
    · split <;> split <;> omega
    · split <;> split <;> omega
end
theorem sz10 : 10 ≤ sizeLine := by show 10 ≤ sizeLine; decide
def keptL : List Str := ["for", "i", "n", "from", "below", "by", "down", "if", "and", "mod"]
theorem kept_same (x : Str) : x ∈ keptL ↔ x ∈ kept := by
  unfold keptL kept
  simp only [List.mem_cons, List.not_mem_nil, or_false]
  constructor
  · rintro (h | h | h | h | h | h | h | h | h | h) <;> simp [h]
  · rintro (h | h | h | h | h | h | h | h | h | h) <;> simp [h]
theorem kept_z : ∀ x ∈ keptL, isName (x ++ ("z" : Str)) = true ∧ (x ++ ("z" : Str)).length ≤ 8 := by decide +kernel
theorem lets_at : ∀ j : Nat, j < 26 → ∃ c, lets.cps.toList[j]? = some c ∧ c ∈ lets.cps.toList := by
  intro j hj
  have hl : lets.cps.toList.length = 26 := by decide +kernel
  exact ⟨_, List.getElem?_eq_getElem (by omega), List.getElem_mem _⟩
/-- a text of letters is a name, unless it is kept -/
theorem name_of {x : Str} {cs : List Nat} (e : x.cps.toList = cs) (h1 : 1 ≤ cs.length) (h8 : cs.length ≤ 8) (hl : ∀ c ∈ cs, c ∈ lets.cps.toList) (hk : x ∉ kept) : isName x = true := by
  have xl : x.length = cs.length := by
    rw [← e, Array.length_toList]
    rfl
  unfold isName
  rw [decide_eq_true (show 1 ≤ x.length ∧ x.length ≤ 8 by omega), Bool.true_and, decide_eq_true hk, Bool.and_true, e]
  exact List.all_eq_true.mpr fun c hc => decide_eq_true (hl c hc)
def sing (c : Nat) : Str := ⟨#[c]⟩
theorem join_sing (cs : List Nat) : (Txt.join ("" : Str) (cs.map sing)).cps.toList = cs := by
  have e := TL.tl_join ("" : Str) (cs.map sing)
  rw [TL.join_eq]
  have e2 : TL.tl ("" : Str) = [] := by decide +kernel
  rw [e2, join_nil, List.map_map] at e
  have e3 : (cs.map (TL.tl ∘ sing)).flatten = cs := by
    clear e e2
    induction cs with
    | nil => rfl
    | cons c cs ih =>
      rw [List.map_cons, List.flatten_cons, ih]
      rfl
  rw [e3] at e
  exact e
section
variable {P : Program} {w : World} {K : PySem.W.Frag} {mg : Str → Option Value} {base : Heap}
theorem sc_law_name : FnScope ["_law_pen_here", "_law_letters", "_law_name_here", "_law_k"] ["_law_pen_here"] (defScope s_law_name) := ⟨rfl, rfl, rfl, by decide +kernel, rfl, by decide +kernel, by decide +kernel⟩
theorem ok_name {f : Addr} {fd : FuncData} (F : FnP K "_law_name" s_law_name f fd) (T : LwTx K mg) (dDraw : Dn P w K mg base 1 "_law_draw" ["_law_pen_here", "_law_many"] spDrawC) : FnOk P w K mg base CX0 2 f fd ["_law_pen_here"] spName := by
  refine F.ok sc_law_name (fun vs H Q E h => ?_) (fun cdv A outer s H vs Q E hr h => ?_)
  · obtain ⟨p, pc, t, rfl, _⟩ := h
    rfl
  · obtain ⟨p, pc, t, rfl, ht, hP, k⟩ := h
    refine ⟨_, PSs.nox (pss_cons (ps_set (i := 1) sc_law_name.nd rfl (Or.inr rfl) pe_str)
      (pss_cons (ps_set (i := 2) sc_law_name.nd rfl (Or.inl rfl) (pe_join pe_str (pe_lc (own := [("_law_k", 3)]) (g := gName 3) (tt := tYes) rfl sc_law_name.nd (pi_range1 (by rfl) T.range (pa_cons (pe_op op_add pe_int (pe_dn dDraw hr (pa_cons (pv 0) (pa_cons pe_int pa_nil)))) pa_nil)) (blkOk_by (N := ["_law_pen_here", "_law_letters", "_law_name_here", "_law_k"]) (sc := defScope s_law_name) (by decide +kernel)) (fun _ _ _ _ _ => (pg_name (i := 3) sc_law_name.nd rfl (.inl rfl))) (fun _ _ _ _ _ => pts_nil) (fun _ _ _ _ _ => (pe_ix ix_str (pv 1) (pe_dn dDraw hr (pa_cons (pv 0) (pa_cons pe_int pa_nil))) (fun _ _ => rfl))))))
      (pss_cons (ps_if (pt_cmpR op_in_seq (pv 2) (pe_tup (pa_cons pe_str (pa_cons pe_str (pa_cons pe_str (pa_cons pe_str (pa_cons pe_str (pa_cons pe_str (pa_cons pe_str (pa_cons pe_str (pa_cons pe_str (pa_cons pe_str pa_nil))))))))))) (by with_unfolding_all rfl)) (pss_one (ps_ret (pe_op op_add_str (pv 2) pe_str))) pss_nil)
      (pss_one (ps_ret (pv 2)))))), ?_⟩
    refine ⟨⟨_, rfl⟩, ?_⟩
    refine ⟨_, rfl, p, 8, t, pc, rfl, by decide, by decide, by omega, hP, fun H1 e e0 e1 hP1 k1 => ⟨_, _, rfl, rfl, ?_⟩⟩
    obtain ⟨n, hn⟩ : ∃ n : Nat, (n : Int) = 1 + e := ⟨(1 + e).toNat, by omega⟩
    refine ⟨(n : Int), congrArg (fun z => [V.int z]) hn.symm, by omega, by omega, ?_⟩
    rw [Int.toNat_natCast]
    intro D hD
    have sD := Same.new (.lst []) (Same.refl H1) hD
    refine lc_range (lo := 0) (n := n) (fun i Hc => ∃ cs : List Nat, cs.length = i ∧ (∀ c ∈ cs, c ∈ lets.cps.toList) ∧ Hc D = some (.lst ((cs.map sing).map V.str)) ∧ PenC Hc p pc (t + 1 + i) ∧ Keep p H Hc) ⟨[], rfl, (fun _ h => by cases h), upd_same, hP1.same sD, k1.trans (Keep.of sD)⟩ ?_ ?_
    · rintro i Hc hi ⟨cs, hcs, hlet, hDc, hPc, kc⟩
      refine ⟨rfl, yes_of ?_⟩
      refine ⟨_, rfl, _, rfl, p, 26, t + 1 + i, pc, rfl, by decide, by decide, by omega, hPc, fun H2 d d0 d1 hP2 k2 => ?_⟩
      obtain ⟨j, rfl⟩ : ∃ j : Nat, d = (j : Int) := ⟨d.toNat, by omega⟩
      obtain ⟨c, hc, hcl⟩ := lets_at j (by omega)
      have hD2 := k2 _ _ (hPc.ne hDc fun _ z => by cases z) hDc
      refine ⟨lets, _, c, rfl, rfl, by decide +kernel, atI_nat hc, ?_⟩
      refine ⟨_, hD2, ?_, cs ++ [c], ?_, ?_, ?_, ?_, ?_⟩
      · rw [List.length_map, List.length_map]
        have := sz10
        omega
      · rw [List.length_append, hcs]
        rfl
      · intro x hx
        rcases List.mem_append.mp hx with z | z
        · exact hlet x z
        · rw [List.mem_singleton.mp z]
          exact hcl
      · rw [upd_same]
        simp [sing]
      · refine hP2.upd ?_ ?_ (t' := t + 1 + (i + 1)) (by omega)
        · exact fun z => (hP2.ne hD2 fun _ z => by cases z) z
        · intro z
          rw [z] at hD
          obtain ⟨o, ho⟩ := hP1.has
          rw [ho] at hD
          cases hD
      · intro b o nb e
        rw [upd_ne (ne_of_none (k1 b o nb e) hD)]
        exact k2 _ _ nb (kc b o nb e)
    · rintro Hc ⟨cs, hcs, hlet, hDc, hPc, kc⟩
      have hsum : ∀ cs : List Nat, ((cs.map sing).map (·.length)).sum = cs.length := by
        intro cs
        induction cs with
        | nil => rfl
        | cons c cs ih =>
          rw [List.map_cons, List.map_cons, List.sum_cons, ih, List.length_cons]
          show 1 + cs.length = cs.length + 1
          omega
      refine ⟨("" : Str), D, cs.map sing, rfl, rfl, .inl (SqL.of hDc), ?_, ?_⟩
      · rw [hsum, List.length_map]
        show cs.length + cs.length * 0 ≤ 16777216
        omega
      obtain ⟨x, hx⟩ : ∃ x, x = Txt.join ("" : Str) (cs.map sing) := ⟨_, rfl⟩
      rw [← hx]
      have xe : x.cps.toList = cs := by rw [hx]; exact join_sing cs
      have c1 : 1 ≤ cs.length := by omega
      have c8 : cs.length ≤ 8 := by omega
      have xl : x.length ≤ 8 := by
        have : x.length = x.cps.toList.length := (Array.length_toList).symm
        rw [this, xe]
        exact c8
      refine ⟨_, rfl, ?_⟩
      refine ⟨sz10, fun T hT => ?_⟩
      have sT := Same.new (.tup (keptL.map V.str)) (Same.refl Hc) hT
      have kT : Keep p Hc (upd Hc T (.tup (keptL.map V.str))) := Keep.of sT
      refine ⟨T, _, rfl, .inr (SqT.of (xs := keptL.map V.str) upd_same), rfl, flat_strs keptL, _, rfl, ?_⟩
      rw [inv_strs]
      by_cases hk : x ∈ keptL
      · obtain ⟨z1, z2⟩ := kept_z x hk
        exact if_yes (decide_eq_true hk) ⟨_, rfl, _, _, rfl, rfl, Nat.le_trans (Nat.add_le_add_right xl 1) (by show 9 ≤ sizeLine; decide), k _ _ z1 z2 ((hPc.same sT).mono (by omega)) (kc.trans kT)⟩
      · have hk2 : x ∉ kept := fun z => hk ((kept_same x).mpr z)
        exact if_no (decide_eq_false hk) ⟨_, rfl, k _ _ (name_of xe c1 c8 hlet hk2) xl ((hPc.same sT).mono (by omega)) (kc.trans kT)⟩
end
inductive Gd where
  | lea (a b c : Int)
  | rst (a b c m r : Int)
structure RdM where
  (x : Str) (a b c d f : Int)
structure StM where
  (x : Str) (a b c k : Int) (rds : List RdM) (gds : List Gd)
structure LpM where
  (l0 l1 l2 h0 h1 h2 S : Int) (dn : Bool) (sts : List StM)
def i3 (a b c : Int) : PyData := .tuple [.int a, .int b, .int c]
def gdD : Gd → PyData
  | .lea a b c => .tuple [.str "least", i3 a b c]
  | .rst a b c m r => .tuple [.str "rest", i3 a b c, .int m, .int r]
def rdD (r : RdM) : PyData := .tuple [.str r.x, .tuple [.int r.a, .int r.b, .int r.c, .int r.d], .int r.f]
def stD (s : StM) : PyData := .tuple [.str s.x, i3 s.a s.b s.c, .int s.k, .tuple (s.rds.map rdD), .tuple (s.gds.map gdD)]
def lpD (l : LpM) : PyData := .tuple [i3 l.l0 l.l1 l.l2, i3 l.h0 l.h1 l.h2, .int l.S, .bool l.dn, .tuple (l.sts.map stD)]
def sm3 (a b c : Int) : Prop := -2 ≤ a ∧ a ≤ 2 ∧ -1 ≤ b ∧ b ≤ 1 ∧ -3 ≤ c ∧ c ≤ 3
def GdOk : Gd → Prop
  | .lea a b c => sm3 a b c
  | .rst a b c m r => sm3 a b c ∧ 2 ≤ m ∧ m ≤ 4 ∧ 0 ≤ r ∧ r ≤ m - 1
def NmOk (x : Str) : Prop := isName x = true ∧ x.length ≤ 8 ∧ x ≠ "zzzzzzzc"
def RdOk (r : RdM) : Prop := NmOk r.x ∧ sm3 r.a r.b r.c ∧ 1 ≤ r.d ∧ r.d ≤ 3 ∧ r.f ≠ 0 ∧ -999 ≤ r.f ∧ r.f ≤ 999
def StOk (s : StM) : Prop := NmOk s.x ∧ sm3 s.a s.b s.c ∧ -9 ≤ s.k ∧ s.k ≤ 99 ∧ s.rds.length ≤ 3 ∧ s.gds.length ≤ 2 ∧ (∀ r ∈ s.rds, RdOk r) ∧ ∀ g ∈ s.gds, GdOk g
def LpOk (l : LpM) : Prop := 0 ≤ l.l0 ∧ l.l0 ≤ 1 ∧ -3 ≤ l.l1 ∧ l.l1 ≤ 2 ∧ 1 ≤ l.l2 ∧ l.l2 ≤ 2 ∧ 0 ≤ l.h0 ∧ l.h0 ≤ 3 ∧ -1 ≤ l.h1 ∧ l.h1 ≤ 4 ∧ 1 ≤ l.h2 ∧ l.h2 ≤ 3 ∧ 1 ≤ l.S ∧ l.S ≤ 3 ∧ (1 < l.S → l.l2 = 1) ∧ 0 ≤ l.sts.length ∧ l.sts.length ≤ 3 ∧ ∀ s ∈ l.sts, StOk s
theorem gd3 {H : Hp} {t : Addr} {a b c : Int} (h : H t = some (.tup [.int a, .int b, .int c])) : DT H (.ref t) (i3 a b c) := dt3 h
def spPick : Sp := fun vs H Q _ => ∃ (p pc l : Addr) (xs : List V) (t : Nat), vs = [.ref p, .ref l] ∧ H l = some (.lst xs) ∧ 0 < xs.length ∧ xs.length < 100 ∧ t < 1000000000 ∧ PenC H p pc t ∧ ∀ H' x, x ∈ xs → PenC H' p pc (t + 1) → Keep p H H' → Q x H'
def spSGuard : Sp := fun vs H Q _ => ∃ (p pc : Addr) (t : Nat), vs = [.ref p] ∧ t < 900000000 ∧ PenC H p pc t ∧ ∀ H' v g, GdOk g → DT H' v (gdD g) → PenC H' p pc (t + 6) → Keep p H H' → Q v H'
section
variable {P : Program} {w : World} {K : PySem.W.Frag} {mg : Str → Option Value} {base : Heap}
theorem sc_law_pick : FnScope ["_law_pen_here", "_law_some"] ["_law_pen_here", "_law_some"] (defScope s_law_pick) := ⟨rfl, rfl, rfl, by decide +kernel, rfl, by decide +kernel, by decide +kernel⟩
theorem ok_pick {f : Addr} {fd : FuncData} (F : FnP K "_law_pick" s_law_pick f fd) (T : LwTx K mg) (dDraw : Dn P w K mg base 1 "_law_draw" ["_law_pen_here", "_law_many"] spDrawC) : FnOk P w K mg base CX0 2 f fd ["_law_pen_here", "_law_some"] spPick := by
  refine F.ok sc_law_pick (fun vs H Q E h => ?_) (fun cdv A outer s H vs Q E hr h => ?_)
  · obtain ⟨p, pc, l, xs, t, rfl, _⟩ := h
    rfl
  · obtain ⟨p, pc, l, xs, t, rfl, hl, h0, h1, ht, hP, k⟩ := h
    refine ⟨_, PSs.nox (pss_one (ps_ret (pe_ix ix_list (pv 1) (pe_dn dDraw hr (pa_cons (pv 0) (pa_cons (pe_callB call_len_seq (by rfl) T.len PySem.boot_len (pa_cons (pv 1) pa_nil)) pa_nil))) (fun _ _ => rfl)))), ?_⟩
    refine ⟨_, rfl, _, rfl, _, rfl, l, _, rfl, .inl (SqL.of hl), ?_⟩
    refine ⟨p, _, t, pc, rfl, by omega, by omega, ht, hP, fun H' d d0 d1 hP' kp => ?_⟩
    obtain ⟨j, rfl⟩ : ∃ j : Nat, d = (j : Int) := ⟨d.toNat, by omega⟩
    have hj : j < xs.length := by omega
    have hl' : H' l = some (.lst xs) := kp _ _ (hP.ne hl fun _ z => lst_ne_dK z) hl
    refine ⟨l, _, _, _, rfl, rfl, SqL.of hl', atI_nat (List.getElem?_eq_getElem hj), ?_⟩
    exact k _ _ (List.getElem_mem _) hP' kp
theorem sz3 : 3 ≤ sizeLine := by show 3 ≤ sizeLine; decide
theorem sz2 : 2 ≤ sizeLine := by show 2 ≤ sizeLine; decide
theorem sc_law_small_guard : FnScope ["_law_pen_here", "_law_row", "_law_m"] ["_law_pen_here"] (defScope s_law_small_guard) := ⟨rfl, rfl, rfl, by decide +kernel, rfl, by decide +kernel, by decide +kernel⟩
theorem ok_sguard {f : Addr} {fd : FuncData} (F : FnP K "_law_small_guard" s_law_small_guard f fd) (T : LwTx K mg) (dDraw : Dn P w K mg base 1 "_law_draw" ["_law_pen_here", "_law_many"] spDrawC) : FnOk P w K mg base CX0 2 f fd ["_law_pen_here"] spSGuard := by
  refine F.ok sc_law_small_guard (fun vs H Q E h => ?_) (fun cdv A outer s H vs Q E hr h => ?_)
  · obtain ⟨p, pc, t, rfl, _⟩ := h
    rfl
  · obtain ⟨p, pc, t, rfl, ht, hP, k⟩ := h
    refine ⟨_, PSs.nox (pss_cons (ps_set (i := 1) sc_law_small_guard.nd rfl (Or.inl rfl) (pe_tup (pa_cons (pe_op op_sub (pe_dn dDraw hr (pa_cons (pv 0) (pa_cons pe_int pa_nil))) pe_int) (pa_cons (pe_op op_sub (pe_dn dDraw hr (pa_cons (pv 0) (pa_cons pe_int pa_nil))) pe_int) (pa_cons (pe_op op_sub (pe_dn dDraw hr (pa_cons (pv 0) (pa_cons pe_int pa_nil))) pe_int) pa_nil)))))
      (pss_cons (ps_if (pt_cmpR op_eq (pe_dn dDraw hr (pa_cons (pv 0) (pa_cons pe_int pa_nil))) pe_int (nomark _)) (pss_one (ps_ret (pe_tup (pa_cons pe_str (pa_cons (pv 1) pa_nil))))) pss_nil)
      (pss_cons (ps_set (i := 2) sc_law_small_guard.nd rfl (Or.inl rfl) (pe_op op_add pe_int (pe_dn dDraw hr (pa_cons (pv 0) (pa_cons pe_int pa_nil)))))
      (pss_one (ps_ret (pe_tup (pa_cons pe_str (pa_cons (pv 1) (pa_cons (pv 2) (pa_cons (pe_dn dDraw hr (pa_cons (pv 0) (pa_cons (pv 2) pa_nil))) pa_nil)))))))))), ?_⟩
    refine ⟨_, rfl, p, 5, t, pc, rfl, by decide, by decide, by omega, hP, fun H1 a a0 a1 hP1 k1 => ⟨_, _, rfl, rfl, ?_⟩⟩
    refine ⟨_, rfl, p, 3, t + 1, pc, rfl, by decide, by decide, by omega, hP1, fun H2 b b0 b1 hP2 k2 => ⟨_, _, rfl, rfl, ?_⟩⟩
    refine ⟨_, rfl, p, 7, t + 2, pc, rfl, by decide, by decide, by omega, hP2, fun H3 c c0 c1 hP3 k3 => ⟨_, _, rfl, rfl, sz3, fun T3 hT3 => ?_⟩⟩
    have k13 := k1.trans (k2.trans k3)
    obtain ⟨H4, eH4⟩ : ∃ L, L = upd H3 T3 (.tup [.int (a - 2), .int (b - 1), .int (c - 3)]) := ⟨_, rfl⟩
    have s4 : Same H3 H4 := by rw [eH4]; exact Same.new _ (Same.refl H3) hT3
    have hT : H4 T3 = some (.tup [.int (a - 2), .int (b - 1), .int (c - 3)]) := by rw [eH4]; exact upd_same
    rw [← eH4]
    have hP4 := hP3.same s4
    have k14 : Keep p H H4 := k13.trans (Keep.of s4)
    have ok3 : sm3 (a - 2) (b - 1) (c - 3) := by unfold sm3; omega
    refine normG (σ' := [some (.ref p), some (.ref T3), none]) rfl ?_
    refine ⟨_, rfl, p, 2, t + 3, pc, rfl, by decide, by decide, by omega, hP4, fun H5 e e0 e1 hP5 k5 => ?_⟩
    have dT5 := (gd3 hT).keepC hP4 k5
    refine ⟨rfl, _, rfl, ite2 (fun _ => ?_) (fun _ => ?_)⟩
    · refine ⟨_, rfl, sz2, fun t6 ht6 => ?_⟩
      have s6 : Same H5 (upd H5 t6 (.tup [.str "least", .ref T3])) := Same.new _ (Same.refl H5) ht6
      exact k _ _ (.lea (a - 2) (b - 1) (c - 3)) ok3 (.tup upd_same (.cons (.str _) (.cons (dT5.same s6) .nil))) ((hP5.same s6).mono (by omega)) (k14.trans (k5.trans (Keep.of s6)))
    · refine ⟨_, rfl, p, 3, t + 4, pc, rfl, by decide, by decide, by omega, hP5, fun H6 m m0 m1 hP6 k6 => ⟨_, _, rfl, rfl, ?_⟩⟩
      refine normG (σ' := [some (.ref p), some (.ref T3), some (.int (2 + m))]) rfl ?_
      have dT6 := dT5.keepC hP5 k6
      refine ⟨_, rfl, _, rfl, _, rfl, _, rfl, p, 2 + m, t + 5, pc, rfl, by omega, by omega, by omega, hP6, fun H7 r r0 r1 hP7 k7 => ⟨sz4, fun t8 ht8 => ?_⟩⟩
      have dT7 := dT6.keepC hP6 k7
      have s8 : Same H7 (upd H7 t8 (.tup [.str "rest", .ref T3, .int (2 + m), .int r])) := Same.new _ (Same.refl H7) ht8
      exact k _ _ (.rst (a - 2) (b - 1) (c - 3) (2 + m) r) ⟨ok3, by omega, by omega, r0, by omega⟩ (.tup upd_same (.cons (.str _) (.cons (dT7.same s8) (.cons (.int _) (.cons (.int _) .nil))))) ((hP7.same s8).mono (by omega)) (k14.trans (k5.trans (k6.trans (k7.trans (Keep.of s8)))))
end
end K28
set_option maxHeartbeats 4000000
namespace K28
open PySem PySem.Spec PyProof.Rows L2 Z
theorem last_no : ∀ w ∈ (("zzzzzzzc" : Str) :: kept), ∀ c ∈ ([97, 98, 122, 107] : List Nat), w.cps.toList.getLast? ≠ some c := by decide +kernel
theorem four_lets : ∀ c ∈ ([97, 98, 122, 107] : List Nat), c ∈ lets.cps.toList := by decide +kernel
theorem nm_of {x : Str} (hx : ∀ c ∈ x.cps.toList, c ∈ lets.cps.toList) (hl : x.length ≤ 7) {c : Nat} (hc : c ∈ ([97, 98, 122, 107] : List Nat)) : NmOk (x ++ sing c) := by
  have e : (x ++ sing c).cps.toList = x.cps.toList ++ [c] := TL.tl_append x (sing c)
  have lx : x.cps.toList.length = x.length := Array.length_toList
  have lst : (x ++ sing c).cps.toList.getLast? = some c := by rw [e]; simp
  have len : (x ++ sing c).length = x.length + 1 := by
    have : (x ++ sing c).length = (x ++ sing c).cps.toList.length := Array.length_toList.symm
    rw [this, e, List.length_append, lx]
    rfl
  refine ⟨name_of e ?_ ?_ ?_ ?_, by omega, fun z => last_no _ (List.mem_cons_self ..) c hc (by rw [← z]; exact lst)⟩
  · rw [List.length_append]
    exact Nat.le_add_left _ _
  · rw [List.length_append, lx]
    show x.length + 1 ≤ 8
    omega
  · intro d hd
    rcases List.mem_append.mp hd with z | z
    · exact hx d z
    · rw [List.mem_singleton.mp z]
      exact four_lets c hc
  · intro z
    exact last_no _ (List.mem_cons_of_mem _ z) c hc lst
theorem isName_let {x : Str} (h : isName x = true) : ∀ c ∈ x.cps.toList, c ∈ lets.cps.toList := by
  unfold isName at h
  intro c hc
  have h1 := (Bool.and_eq_true_iff.mp (Bool.and_eq_true_iff.mp h).2).1
  exact of_decide_eq_true (List.all_eq_true.mp h1 c hc)
theorem cut_mem {z : Str} {lo hi : Option Int} {c : Nat} (h : c ∈ (cutS z lo hi).cps.toList) : c ∈ z.cps.toList := by
  unfold cutS at h
  exact List.mem_of_mem_drop (List.mem_of_mem_take h)
theorem cut7 (z : Str) : (cutS z none (some 7)).length ≤ 7 := by
  have : (cutS z none (some 7)).length = (cutS z none (some 7)).cps.toList.length := Array.length_toList.symm
  rw [this]
  unfold cutS
  show ((z.cps.toList.drop _).take _).length ≤ 7
  rw [List.length_take]
  have e := HT.sIx_nat z.length z.length 7
  rw [show ((7 : Nat) : Int) = 7 from rfl] at e
  rw [e]
  omega
theorem cut_bzk {m : Int} (h0 : 0 ≤ m) (h1 : m ≤ 2) : (cutS "bzk" none (some m)).cps.size ≤ 2 := by
  obtain rfl | rfl | rfl : m = 0 ∨ m = 1 ∨ m = 2 := by omega
  all_goals decide +kernel
theorem bzk_mem : ∀ c ∈ ("bzk" : Str).cps.toList, c ∈ ([97, 98, 122, 107] : List Nat) := by decide +kernel
def spNames : Sp := fun vs H Q _ => ∃ (p pc : Addr) (m : Int) (t : Nat), vs = [.ref p, .int m] ∧ 1 ≤ m ∧ m ≤ 3 ∧ t < 800000000 ∧ PenC H p pc t ∧ ∀ H' l (xs : List Str), H' l = some (.lst (xs.map V.str)) → 1 ≤ xs.length → xs.length ≤ 3 → (∀ x ∈ xs, NmOk x) → PenC H' p pc (t + 9) → Keep p H H' → Q (.ref l) H'
section
variable {P : Program} {w : World} {K : PySem.W.Frag} {mg : Str → Option Value} {base : Heap}
theorem sc_law_names : FnScope ["_law_pen_here", "_law_many", "_law_first", "_law_found", "_law_letter"] ["_law_pen_here", "_law_many"] (defScope s_law_names) := ⟨rfl, rfl, rfl, by decide +kernel, rfl, by decide +kernel, by decide +kernel⟩
theorem ok_names {f : Addr} {fd : FuncData} (F : FnP K "_law_names" s_law_names f fd) (T : LwTx K mg) (dName : Dn P w K mg base 2 "_law_name" ["_law_pen_here"] spName) : FnOk P w K mg base CX0 3 f fd ["_law_pen_here", "_law_many"] spNames := by
  refine F.ok sc_law_names (fun vs H Q E h => ?_) (fun cdv A outer s H vs Q E hr h => ?_)
  · obtain ⟨p, pc, m, t, rfl, _⟩ := h
    rfl
  · obtain ⟨p, pc, m, t, rfl, m1, m3, ht, hP, k⟩ := h
    refine ⟨_, PSs.nox (pss_cons (ps_set (i := 2) sc_law_names.nd rfl (Or.inl rfl) (pe_slice sl_str (pe_dn dName hr (pa_cons (pv 0) pa_nil)) po_none (po_some pe_int)))
      (pss_cons (ps_set (i := 3) sc_law_names.nd rfl (Or.inl rfl) (pe_lst (pa_cons (pe_op op_add_str (pv 2) pe_str) pa_nil)))
      (pss_cons (ps_for PassesOwn.never rfl (pi_str (pe_slice sl_str pe_str po_none (po_some (pe_op op_sub (pv 1) pe_int)))) (pg_name (i := 4) sc_law_names.nd rfl (.inl rfl)) (pss_one (ps_expr (pe_bm PySem.F.plainAttrs_list PySem.F.slot_list_append PySem.F.type_list_append mt_append (pv 3) (pa_cons (pe_op op_add_str (pv 2) (pv 4)) pa_nil)))))
      (pss_one (ps_ret (pv 3)))))), ?_⟩
    refine ⟨_, rfl, p, pc, t, rfl, by omega, hP, fun H1 x hx hl hP1 k1 => ?_⟩
    refine ⟨_, rfl, x, rfl, Nat.le_trans hl (by show 8 ≤ sizeLine; decide), ?_⟩
    obtain ⟨y, ey⟩ : ∃ y, y = cutS x none (some 7) := ⟨_, rfl⟩
    rw [← ey]
    have hy : ∀ c ∈ y.cps.toList, c ∈ lets.cps.toList := fun c hc => isName_let hx c (cut_mem (by rw [← ey]; exact hc))
    have ly : y.length ≤ 7 := by rw [ey]; exact cut7 x
    refine normG (σ' := [some (.ref p), some (.int m), some (.str y), none, none]) rfl ?_
    have szy : y.length + 1 ≤ sizeLine := Nat.le_trans (Nat.add_le_add_right ly 1) (by show 8 ≤ sizeLine; decide)
    refine ⟨_, rfl, _, _, rfl, rfl, szy, (by show 1 ≤ sizeLine; decide), fun l hl => ?_⟩
    have s2 := Same.new (.lst [.str (y ++ ("a" : Str))]) (Same.refl H1) hl
    have hP2 := hP1.same s2
    refine normG (σ' := [some (.ref p), some (.int m), some (.str y), some (.ref l), none]) rfl ?_
    refine ⟨_, rfl, _, _, rfl, rfl, _, rfl, ("bzk" : Str), rfl, (by decide +kernel), _, rfl, ?_⟩
    obtain ⟨z, ez⟩ : ∃ z, z = cutS "bzk" none (some (m - 1)) := ⟨_, rfl⟩
    rw [← ez]
    have z2 : z.cps.size ≤ 2 := by rw [ez]; exact cut_bzk (by omega) (by omega)
    refine for_it walk_str (fun i σ H' => ∃ (v : Option V) (xs : List Str), σ = [some (.ref p), some (.int m), some (.str y), some (.ref l), v] ∧ H' l = some (.lst (xs.map V.str)) ∧ xs.length = i + 1 ∧ (∀ x ∈ xs, NmOk x) ∧ Same H1 H') ?_ (fun _ _ _ _ _ => trivial) ?_ ?_
    · exact ⟨none, [y ++ ("a" : Str)], rfl, upd_same, rfl, fun x hx => by rw [List.mem_singleton.mp hx]; exact nm_of hy ly (c := 97) (by simp), s2⟩
    · rintro i v σ H2 H3 hi ⟨v4, xs, rfl, hl2, hx2, nx, s3⟩ ⟨rfl, c, hc, rfl⟩
      have hcm : c ∈ z.cps.toList := by
        have : z.cps.toList[i]? = some c := by rw [Array.getElem?_toList]; exact hc
        exact List.mem_of_getElem? this
      have hc4 : c ∈ ([97, 98, 122, 107] : List Nat) := bzk_mem c (cut_mem (by rw [← ez]; exact hcm))
      refine normG (σ' := [some (.ref p), some (.int m), some (.str y), some (.ref l), some (.str (sing c))]) rfl ?_
      refine ⟨_, rfl, .inl ⟨rfl, _, SqL.of hl2⟩, _, rfl, _, rfl, _, _, rfl, rfl, szy, ?_⟩
      refine ⟨_, _, _, rfl, rfl, hl2, ?_, _, xs ++ [y ++ sing c], rfl, ?_, ?_, ?_, ?_⟩
      · rw [List.length_map]
        have : 1000 ≤ sizeLine := by show 1000 ≤ sizeLine; decide
        omega
      · rw [upd_same, List.map_append]
        rfl
      · rw [List.length_append, hx2]
        rfl
      · intro x hx
        rcases List.mem_append.mp hx with q | q
        · exact nx x q
        · rw [List.mem_singleton.mp q]
          exact nm_of hy ly hc4
      · intro b o e
        rw [upd_ne (ne_of_none e hl)]
        exact s3 b o e
    · rintro σ H2 ⟨v4, xs, rfl, hl2, hx2, nx, s3⟩
      exact ⟨_, rfl, k _ _ _ hl2 (by omega) (by omega) nx (hP1.same s3) (k1.trans (Keep.of s3))⟩
end
theorem five : ∀ (j : Nat) (v : V), ([.int 1, .int 1, .int 1, .int 2, .int 3] : List V)[j]? = some v → ∃ d : Int, v = .int d ∧ 1 ≤ d ∧ d ≤ 3 := by
  intro j v h
  match j, h with
  | 0, h => exact ⟨_, (Option.some.inj h).symm, by decide, by decide⟩
  | 1, h => exact ⟨_, (Option.some.inj h).symm, by decide, by decide⟩
  | 2, h => exact ⟨_, (Option.some.inj h).symm, by decide, by decide⟩
  | 3, h => exact ⟨_, (Option.some.inj h).symm, by decide, by decide⟩
  | 4, h => exact ⟨_, (Option.some.inj h).symm, by decide, by decide⟩
  | j + 5, h => cases h
theorem eight : ∀ (j : Nat) (v : V), ([.int 1, .int 1, .int (-1), .int 2, .int 3, .int (-2), .int 999, .int (-999)] : List V)[j]? = some v → ∃ d : Int, v = .int d ∧ d ≠ 0 ∧ -999 ≤ d ∧ d ≤ 999 := by
  intro j v h
  match j, h with
  | 0, h => exact ⟨_, (Option.some.inj h).symm, by decide, by decide, by decide⟩
  | 1, h => exact ⟨_, (Option.some.inj h).symm, by decide, by decide, by decide⟩
  | 2, h => exact ⟨_, (Option.some.inj h).symm, by decide, by decide, by decide⟩
  | 3, h => exact ⟨_, (Option.some.inj h).symm, by decide, by decide, by decide⟩
  | 4, h => exact ⟨_, (Option.some.inj h).symm, by decide, by decide, by decide⟩
  | 5, h => exact ⟨_, (Option.some.inj h).symm, by decide, by decide, by decide⟩
  | 6, h => exact ⟨_, (Option.some.inj h).symm, by decide, by decide, by decide⟩
  | 7, h => exact ⟨_, (Option.some.inj h).symm, by decide, by decide, by decide⟩
  | j + 8, h => cases h
theorem six : ∀ (j : Nat) (v : V), ([.int 0, .int 0, .int 0, .int 1, .int 1, .int 2] : List V)[j]? = some v → ∃ d : Nat, v = .int (d : Int) ∧ d ≤ 2 := by
  intro j v h
  match j, h with
  | 0, h => exact ⟨0, (Option.some.inj h).symm, by decide⟩
  | 1, h => exact ⟨0, (Option.some.inj h).symm, by decide⟩
  | 2, h => exact ⟨0, (Option.some.inj h).symm, by decide⟩
  | 3, h => exact ⟨1, (Option.some.inj h).symm, by decide⟩
  | 4, h => exact ⟨1, (Option.some.inj h).symm, by decide⟩
  | 5, h => exact ⟨2, (Option.some.inj h).symm, by decide⟩
  | j + 6, h => cases h
theorem sz1 : 1 ≤ sizeLine := by show 1 ≤ sizeLine; decide
theorem sz8 : 8 ≤ sizeLine := by show 8 ≤ sizeLine; decide
theorem sz6 : 6 ≤ sizeLine := by show 6 ≤ sizeLine; decide
theorem sz5 : 5 ≤ sizeLine := by show 5 ≤ sizeLine; decide
theorem sz7 : 7 ≤ sizeLine := by show 7 ≤ sizeLine; decide
theorem sz1l (n : Nat) (h : n < 1000) : n < sizeLine := Nat.lt_of_lt_of_le h sz1000
/-- a number drawn is a place in a list of so many -/
theorem drawn {d : Int} {n : Nat} (h0 : 0 ≤ d) (h1 : d < (n : Int)) : ∃ j : Nat, d = (j : Int) ∧ j < n := ⟨d.toNat, by omega, by omega⟩
def spSStm : Sp := fun vs H Q _ => ∃ (p pc l : Addr) (xs : List Str) (t : Nat), vs = [.ref p, .ref l] ∧ H l = some (.lst (xs.map V.str)) ∧ 1 ≤ xs.length ∧ xs.length ≤ 3 ∧ (∀ x ∈ xs, NmOk x) ∧ t < 800000000 ∧ PenC H p pc t ∧
  ∀ H' v s, StOk s → DT H' v (stD s) → PenC H' p pc (t + 60) → Keep p H H' → Q v H'
section
variable {P : Program} {w : World} {K : PySem.W.Frag} {mg : Str → Option Value} {base : Heap}
theorem sc_law_small_statement : FnScope ["_law_pen_here", "_law_names_here", "_law_array", "_law_cell", "_law_read", "_law_guards", "_law_turn", "_law_place"] ["_law_pen_here", "_law_names_here"] (defScope s_law_small_statement) := ⟨rfl, rfl, rfl, by decide +kernel, rfl, by decide +kernel, by decide +kernel⟩
theorem ok_sstm {f : Addr} {fd : FuncData} (F : FnP K "_law_small_statement" s_law_small_statement f fd) (T : LwTx K mg) (dDraw : Dn P w K mg base 1 "_law_draw" ["_law_pen_here", "_law_many"] spDrawC)
    (dPick : Dn P w K mg base 2 "_law_pick" ["_law_pen_here", "_law_some"] spPick) (dBetween : Dn P w K mg base 2 "_law_between" ["_law_pen_here", "_law_least", "_law_most"] spBetween) (dSGuard : Dn P w K mg base 2 "_law_small_guard" ["_law_pen_here"] spSGuard) :
    FnOk P w K mg base CX0 3 f fd ["_law_pen_here", "_law_names_here"] spSStm := by
  refine F.ok sc_law_small_statement (fun vs H Q E h => ?_) (fun cdv A outer s H vs Q E hr h => ?_)
  · obtain ⟨p, pc, l, xs, t, rfl, _⟩ := h
    rfl
  · obtain ⟨p, pc, l, xs, t, rfl, hl, x1, x3, nx, ht, hP, k⟩ := h
    refine ⟨_, PSs.nox (pss_cons (ps_set (i := 2) sc_law_small_statement.nd rfl (Or.inl rfl) (pe_dn dPick hr (pa_cons (pv 0) (pa_cons (pv 1) pa_nil))))
      (pss_cons (ps_set (i := 3) sc_law_small_statement.nd rfl (Or.inl rfl) (pe_tup (pa_cons (pe_op op_sub (pe_dn dDraw hr (pa_cons (pv 0) (pa_cons pe_int pa_nil))) pe_int) (pa_cons (pe_op op_sub (pe_dn dDraw hr (pa_cons (pv 0) (pa_cons pe_int pa_nil))) pe_int) (pa_cons (pe_op op_sub (pe_dn dDraw hr (pa_cons (pv 0) (pa_cons pe_int pa_nil))) pe_int) pa_nil)))))
      (pss_cons (ps_par (i := 4) (j := 5) (by rfl) sc_law_small_statement.nd rfl rfl (by decide) rfl rfl (pa_cons (pe_lst pa_nil) (pa_cons (pe_lst pa_nil) pa_nil)) (by rfl))
      (pss_cons (ps_for PassesOwn.never rfl (pi_range1 (by rfl) T.range (pa_cons (pe_dn dDraw hr (pa_cons (pv 0) (pa_cons pe_int pa_nil))) pa_nil)) (pg_name (i := 6) sc_law_small_statement.nd rfl (.inl rfl)) (pss_cons (ps_set (i := 7) sc_law_small_statement.nd rfl (Or.inl rfl) (pe_tup (pa_cons (pe_op op_sub (pe_dn dDraw hr (pa_cons (pv 0) (pa_cons pe_int pa_nil))) pe_int) (pa_cons (pe_op op_sub (pe_dn dDraw hr (pa_cons (pv 0) (pa_cons pe_int pa_nil))) pe_int) (pa_cons (pe_op op_sub (pe_dn dDraw hr (pa_cons (pv 0) (pa_cons pe_int pa_nil))) pe_int) pa_nil)))))
      (pss_cons (ps_set (i := 7) sc_law_small_statement.nd rfl (Or.inl rfl) (pe_op op_catT (pv 7) (pe_tup (pa_cons (pe_ix ix_list (pe_lst (pa_cons pe_int (pa_cons pe_int (pa_cons pe_int (pa_cons pe_int (pa_cons pe_int pa_nil)))))) (pe_dn dDraw hr (pa_cons (pv 0) (pa_cons pe_int pa_nil))) (fun _ _ => rfl)) pa_nil))))
      (pss_one (ps_expr (pe_bm PySem.F.plainAttrs_list PySem.F.slot_list_append PySem.F.type_list_append mt_append (pv 4) (pa_cons (pe_tup (pa_cons (pe_dn dPick hr (pa_cons (pv 0) (pa_cons (pv 1) pa_nil))) (pa_cons (pv 7) (pa_cons (pe_ix ix_list (pe_lst (pa_cons pe_int (pa_cons pe_int (pa_cons (pe_un un_neg pe_int) (pa_cons pe_int (pa_cons pe_int (pa_cons (pe_un un_neg pe_int) (pa_cons pe_int (pa_cons (pe_un un_neg pe_int) pa_nil))))))))) (pe_dn dDraw hr (pa_cons (pv 0) (pa_cons pe_int pa_nil))) (fun _ _ => rfl)) pa_nil)))) pa_nil)))))))
      (pss_cons (ps_for PassesOwn.never rfl (pi_range1 (by rfl) T.range (pa_cons (pe_ix ix_list (pe_lst (pa_cons pe_int (pa_cons pe_int (pa_cons pe_int (pa_cons pe_int (pa_cons pe_int (pa_cons pe_int pa_nil))))))) (pe_dn dDraw hr (pa_cons (pv 0) (pa_cons pe_int pa_nil))) (fun _ _ => rfl)) pa_nil)) (pg_name (i := 6) sc_law_small_statement.nd rfl (.inl rfl)) (pss_one (ps_expr (pe_bm PySem.F.plainAttrs_list PySem.F.slot_list_append PySem.F.type_list_append mt_append (pv 5) (pa_cons (pe_dn dSGuard hr (pa_cons (pv 0) pa_nil)) pa_nil)))))
      (pss_one (ps_ret (pe_tup (pa_cons (pv 2) (pa_cons (pv 3) (pa_cons (pe_dn dBetween hr (pa_cons (pv 0) (pa_cons (pe_un un_neg pe_int) (pa_cons pe_int pa_nil)))) (pa_cons (pe_callTy call_tuple_of (by rfl) T.tuple (by decide +kernel) (pa_cons (pv 4) pa_nil)) (pa_cons (pe_callTy call_tuple_of (by rfl) T.tuple (by decide +kernel) (pa_cons (pv 5) pa_nil)) pa_nil))))))))))))), ?_⟩
    have xl : (xs.map V.str).length = xs.length := List.length_map ..
    refine ⟨_, rfl, _, rfl, p, pc, l, _, t, rfl, hl, by omega, by omega, by omega, hP, fun H1 x hx hP1 k1 => ?_⟩
    obtain ⟨nm, hnm, rfl⟩ := List.mem_map.mp hx
    have hl1 := k1 _ _ (hP.ne hl fun _ z => by cases z) hl
    refine normG (σ' := [some (.ref p), some (.ref l), some (.str nm), none, none, none, none, none]) rfl ?_
    refine ⟨_, rfl, p, 4, t + 1, pc, rfl, by decide, by decide, by omega, hP1, fun H2 a a0 a1 hP2 k2 => ⟨_, _, rfl, rfl, ?_⟩⟩
    refine ⟨_, rfl, p, 3, t + 2, pc, rfl, by decide, by decide, by omega, hP2, fun H3 b b0 b1 hP3 k3 => ⟨_, _, rfl, rfl, ?_⟩⟩
    refine ⟨_, rfl, p, 5, t + 3, pc, rfl, by decide, by decide, by omega, hP3, fun H4 c c0 c1 hP4 k4 => ⟨_, _, rfl, rfl, sz3, fun C hC => ?_⟩⟩
    have k14 := k1.trans (k2.trans (k3.trans k4))
    have hl4 := k4 _ _ (hP3.ne (k3 _ _ (hP2.ne (k2 _ _ (hP1.ne hl1 fun _ z => by cases z) hl1) fun _ z => by cases z) (k2 _ _ (hP1.ne hl1 fun _ z => by cases z) hl1)) fun _ z => by cases z) (k3 _ _ (hP2.ne (k2 _ _ (hP1.ne hl1 fun _ z => by cases z) hl1) fun _ z => by cases z) (k2 _ _ (hP1.ne hl1 fun _ z => by cases z) hl1))
    obtain ⟨H5, eH5⟩ : ∃ L, L = upd H4 C (.tup [.int (a - 1), .int (b - 1), .int (c - 2)]) := ⟨_, rfl⟩
    have s5 : Same H4 H5 := by rw [eH5]; exact Same.new _ (Same.refl H4) hC
    have dC : DT H5 (.ref C) (i3 (a - 1) (b - 1) (c - 2)) := by rw [eH5]; exact gd3 upd_same
    rw [← eH5]
    refine normG (σ' := [some (.ref p), some (.ref l), some (.str nm), some (.ref C), none, none, none, none]) rfl ?_
    have hP5 := hP4.same s5
    refine ⟨(by decide), fun R hR => ⟨(by decide), fun G hG => ⟨_, _, rfl, ?_⟩⟩⟩
    have k5 : Keep p H H5 := k14.trans (Keep.of s5)
    have sR := Same.new (.lst []) (Same.refl H5) hR
    obtain ⟨H6, eH6⟩ : ∃ L, L = upd (upd H5 R (.lst [])) G (.lst []) := ⟨_, rfl⟩
    have s6 : Same H5 H6 := by rw [eH6]; exact Same.new _ sR hG
    have nGR : G ≠ R := fun z => by
      rw [z, upd_same] at hG
      cases hG
    have hR6 : H6 R = some (.lst []) := by rw [eH6, upd_ne nGR.symm]; exact upd_same
    have hG6 : H6 G = some (.lst []) := by rw [eH6]; exact upd_same
    have hG5 : H5 G = none := by
      rw [upd_ne nGR] at hG
      exact hG
    rw [← eH6]
    refine norm (σ' := [some (.ref p), some (.ref l), some (.str nm), some (.ref C), some (.ref R), some (.ref G), none, none]) rfl ?_
    have t14 : t + 4 ≤ t + 4 := Nat.le_refl _
    have hP6 := hP5.same s6
    have hl6 := s6 _ _ (s5 _ _ hl4)
    have k6 : Keep p H H6 := k5.trans (Keep.of s6)
    have dC6 := dC.same s6
    have hcR : R ≠ pc := by
      obtain ⟨o, ho⟩ := hP5.has
      exact (ne_of_none ho hR).symm
    have nHR : ∀ o, H R ≠ some o := fun o e => by
      have nRp : R ≠ p := (hP5.ne' hR).symm
      rw [k5 _ _ nRp e] at hR
      cases hR
    have nlR : l ≠ R := ne_of_none (s5 _ _ hl4) hR
    have nlG : l ≠ G := ne_of_none (s5 _ _ hl4) hG5
    -- the reads
    dsimp only
    refine mid (fun σ' H' => ∃ (v6 v7 : Option V) (vs : List V) (rds : List RdM), σ' = [some (.ref p), some (.ref l), some (.str nm), some (.ref C), some (.ref R), some (.ref G), v6, v7] ∧
      H' R = some (.lst vs) ∧ DTs H' vs (rds.map rdD) ∧ rds.length ≤ 3 ∧ (∀ r ∈ rds, RdOk r) ∧ H' G = some (.lst []) ∧ H' l = some (.lst (xs.map V.str)) ∧ PenC H' p pc (t + 30) ∧ TSame H6 H' ∧ (∀ b o, H b = some o → b ≠ p → H' b = some o)) (fun key => ?_) ?_
    · refine ⟨_, rfl, p, 4, t + 4, pc, rfl, by decide, by decide, by omega, hP6, fun H7 n n0 n4 hP7 k7 => ?_⟩
      obtain ⟨n, rfl, hn⟩ := drawn n0 n4
      refine ⟨(n : Int), rfl, by omega, by omega, ?_⟩
      rw [Int.toNat_natCast]
      have kR := k7 _ _ (hP6.ne hR6 fun _ z => by cases z) hR6
      have kG := k7 _ _ (hP6.ne hG6 fun _ z => by cases z) hG6
      have kl := k7 _ _ (hP6.ne hl6 fun _ z => by cases z) hl6
      refine for_range (lo := 0) (n := n) (fun i σ' H' => ∃ (v6 v7 : Option V) (vs : List V) (rds : List RdM), σ' = [some (.ref p), some (.ref l), some (.str nm), some (.ref C), some (.ref R), some (.ref G), v6, v7] ∧
        H' R = some (.lst vs) ∧ DTs H' vs (rds.map rdD) ∧ rds.length = i ∧ (∀ r ∈ rds, RdOk r) ∧ H' G = some (.lst []) ∧ H' l = some (.lst (xs.map V.str)) ∧ PenC H' p pc (t + 5 + i * 6) ∧ TSame H6 H' ∧ (∀ b o, H b = some o → b ≠ p → H' b = some o)) ?_ ?_ ?_
      · exact ⟨none, none, [], [], rfl, kR, .nil, rfl, (fun _ h => by cases h), kG, kl, hP7, .keepC hP6 k7, fun b o e nb => (k6.trans k7) b o nb e⟩
      · rintro i σ H8 hi ⟨v6, v7, vs, rds, rfl, eR, dR, lR, okR, eG, el, hP8, ts8, kk⟩
        refine normG (σ' := [some (.ref p), some (.ref l), some (.str nm), some (.ref C), some (.ref R), some (.ref G), some (.int (0 + (i : Int))), v7]) rfl ?_
        refine ⟨_, rfl, p, 4, t + 5 + i * 6, pc, rfl, by decide, by decide, by omega, hP8, fun H9 a9 a0 a1 hP9 k9 => ⟨_, _, rfl, rfl, ?_⟩⟩
        refine ⟨_, rfl, p, 3, t + 5 + i * 6 + 1, pc, rfl, by decide, by decide, by omega, hP9, fun HA b9 b0 b1 hPA kA => ⟨_, _, rfl, rfl, ?_⟩⟩
        refine ⟨_, rfl, p, 5, t + 5 + i * 6 + 2, pc, rfl, by decide, by decide, by omega, hPA, fun HB c9 c0 c1 hPB kB => ⟨_, _, rfl, rfl, sz3, fun U hU => ?_⟩⟩
        refine normG (σ' := [some (.ref p), some (.ref l), some (.str nm), some (.ref C), some (.ref R), some (.ref G), some (.int (0 + (i : Int))), some (.ref U)]) rfl ?_
        have k8B := k9.trans (kA.trans kB)
        obtain ⟨HC, eHC⟩ : ∃ L, L = upd HB U (.tup [.int (a9 - 1), .int (b9 - 1), .int (c9 - 2)]) := ⟨_, rfl⟩
        have sC : Same HB HC := by rw [eHC]; exact Same.new _ (Same.refl HB) hU
        have hUC : HC U = some (.tup [.int (a9 - 1), .int (b9 - 1), .int (c9 - 2)]) := by rw [eHC]; exact upd_same
        rw [← eHC]
        refine ⟨_, rfl, sz5, fun W5 hW5 => ?_⟩
        have hPC := hPB.same sC
        have sD := Same.new (.lst [.int 1, .int 1, .int 1, .int 2, .int 3]) (Same.refl HC) hW5
        refine ⟨_, rfl, p, 5, t + 5 + i * 6 + 3, pc, rfl, by decide, by decide, by omega, hPC.same sD, fun HD d d0 d1 hPD kD => ?_⟩
        obtain ⟨j, rfl, hj⟩ := drawn (n := 5) d0 d1
        have eW := (hPC.same sD).lst kD (upd_same (H := HC) (a := W5))
        obtain ⟨v, hv⟩ : ∃ v, ([.int 1, .int 1, .int 1, .int 2, .int 3] : List V)[j]? = some v := ⟨_, List.getElem?_eq_getElem hj⟩
        obtain ⟨dv, rfl, d1', d3'⟩ := five j v hv
        refine ⟨W5, _, _, _, rfl, rfl, SqL.of eW, atI_nat hv, sz1, fun V1 hV1 => ?_⟩
        have eU : HD U = some (.tup [.int (a9 - 1), .int (b9 - 1), .int (c9 - 2)]) := (hPC.same sD).tup kD (sD _ _ hUC)
        have sE := Same.new (.tup [.int dv]) (Same.refl HD) hV1
        refine ⟨U, V1, _, _, rfl, rfl, SqT.of (sE _ _ eU), SqT.of upd_same, List.cons_ne_nil _ _, sz4, (fun z => by cases z), fun _ P4 hP4 => ?_⟩
        obtain ⟨HE, eHE⟩ : ∃ L, L = upd (upd HD V1 (.tup [.int dv])) P4 (.tup ([.int (a9 - 1), .int (b9 - 1), .int (c9 - 2)] ++ [.int dv])) := ⟨_, rfl⟩
        have sF : Same HD HE := by rw [eHE]; exact Same.new _ sE hP4
        have e4 : HE P4 = some (.tup [.int (a9 - 1), .int (b9 - 1), .int (c9 - 2), .int dv]) := by rw [eHE]; exact upd_same
        rw [← eHE]
        refine normG (σ' := [some (.ref p), some (.ref l), some (.str nm), some (.ref C), some (.ref R), some (.ref G), some (.int (0 + (i : Int))), some (.ref P4)]) rfl ?_
        have k8C : Keep p H8 HC := k8B.trans (Keep.of sC)
        have k8E : Keep p H8 HE := k8C.trans ((Keep.of sD).trans (kD.trans (Keep.of sF)))
        have hPE := hPD.same sF
        have eRE := hP8.lst k8E eR
        have elE := hP8.lst k8E el
        refine ⟨_, rfl, .inl ⟨rfl, _, SqL.of eRE⟩, _, rfl, _, rfl, p, pc, l, _, t + 5 + i * 6 + 4, rfl, elE, by omega, by omega, by omega, hPE, fun HF x2 hx2 hPF kF => ?_⟩
        obtain ⟨nm2, hnm2, rfl⟩ := List.mem_map.mp hx2
        refine ⟨_, rfl, _, rfl, _, rfl, _, rfl, sz8, fun W8 hW8 => ?_⟩
        have sG := Same.new (.lst [.int 1, .int 1, .int (-1), .int 2, .int 3, .int (-2), .int 999, .int (-999)]) (Same.refl HF) hW8
        refine ⟨_, rfl, p, 8, t + 5 + i * 6 + 5, pc, rfl, by decide, by decide, by omega, hPF.same sG, fun HG q q0 q1 hPG kG => ?_⟩
        obtain ⟨j2, rfl, hj2⟩ := drawn (n := 8) q0 q1
        have eW8 := (hPF.same sG).lst kG (upd_same (H := HF) (a := W8))
        obtain ⟨v8, hv8⟩ : ∃ v, ([.int 1, .int 1, .int (-1), .int 2, .int 3, .int (-2), .int 999, .int (-999)] : List V)[j2]? = some v := ⟨_, List.getElem?_eq_getElem hj2⟩
        obtain ⟨fv, rfl, f0, f1, f2⟩ := eight j2 v8 hv8
        refine ⟨W8, _, _, _, rfl, rfl, SqL.of eW8, atI_nat hv8, sz3, fun TT hTT => ?_⟩
        have kEG : Keep p HE HG := kF.trans ((Keep.of sG).trans kG)
        have k8G : Keep p H8 HG := k8E.trans kEG
        have eRG := hP8.lst k8G eR
        have sH := Same.new (.tup [.str nm2, .ref P4, .int fv]) (Same.refl HG) hTT
        have e4G := sH _ _ (hPE.tup kEG e4)
        have ts8G : TSame H8 (upd HG TT (.tup [.str nm2, .ref P4, .int fv])) := (TSame.keepC hP8 k8G).trans (.of sH)
        have eRH := sH _ _ eRG
        have lvs : vs.length < sizeLine := sz1l _ (by rw [dR.len, List.length_map]; omega)
        refine ⟨R, _, _, rfl, rfl, eRH, lvs, ?_⟩
        have tsU : TSame (upd HG TT (.tup [.str nm2, .ref P4, .int fv])) (upd (upd HG TT (.tup [.str nm2, .ref P4, .int fv])) R (.lst (vs ++ [.ref TT]))) := .updL eRH
        have nTR : TT ≠ R := fun z => by
          rw [z, eRG] at hTT
          cases hTT
        have nGR2 : G ≠ R := nGR
        refine ⟨_, _, vs ++ [.ref TT], rds ++ [⟨nm2, a9 - 1, b9 - 1, c9 - 2, dv, fv⟩], rfl, upd_same, ?_, ?_, ?_, ?_, ?_, ?_, ?_, ?_⟩
        · refine ((dR.to ts8G).to tsU).snoc ?_
          refine .tup (tsU _ _ upd_same) (.cons (.str _) (.cons (.tup (tsU _ _ e4G) (.cons (.int _) (.cons (.int _) (.cons (.int _) (.cons (.int _) .nil))))) (.cons (.int _) .nil)))
        · rw [List.length_append, lR]
          rfl
        · intro r hr2
          rcases List.mem_append.mp hr2 with z | z
          · exact okR r z
          · rw [List.mem_singleton.mp z]
            refine ⟨nx _ hnm2, ?_, d1', d3', f0, f1, f2⟩
            show sm3 (a9 - 1) (b9 - 1) (c9 - 2)
            unfold sm3
            omega
        · rw [upd_ne nGR]
          exact sH _ _ (hP8.lst k8G eG)
        · rw [upd_ne nlR]
          exact sH _ _ (hP8.lst k8G el)
        · have pR : PenC (upd HG TT (.tup [.str nm2, .ref P4, .int fv])) p pc (t + 5 + (i + 1) * 6) := (hPG.same sH).mono (by omega)
          exact pR.upd (pR.ne eRH fun _ z => by cases z) hcR (Nat.le_refl _)
        · exact ts8.trans (ts8G.trans tsU)
        · intro b o e nb
          have nbR : b ≠ R := fun z => by
            rw [z] at e
            exact nHR o e
          rw [upd_ne nbR]
          exact sH _ _ (k8G b o nb (kk b o e nb))
      · rintro σ H8 ⟨v6, v7, vs, rds, rfl, eR, dR, lR, okR, eG, el, hP8, ts8, kk⟩
        exact key _ _ ⟨_, _, vs, rds, rfl, eR, dR, by omega, okR, eG, el, hP8.mono (by omega), ts8, kk⟩
    rintro σ HJ ⟨v6, v7, vs, rds, rfl, eR, dR, lR, okR, eG, el, hPJ, tsJ, kk⟩
    have hcG : G ≠ pc := by
      obtain ⟨o, ho⟩ := hP5.has
      exact (ne_of_none ho hG5).symm
    have nHG : ∀ o, H G ≠ some o := fun o e => by
      have nGp : G ≠ p := (hP5.ne' hG5).symm
      rw [k5 _ _ nGp e] at hG5
      cases hG5
    -- the guards
    refine mid (fun σ' H' => ∃ (v6 v7 : Option V) (ws : List V) (gds : List Gd), σ' = [some (.ref p), some (.ref l), some (.str nm), some (.ref C), some (.ref R), some (.ref G), v6, v7] ∧
      H' G = some (.lst ws) ∧ DTs H' ws (gds.map gdD) ∧ gds.length ≤ 2 ∧ (∀ g ∈ gds, GdOk g) ∧ H' R = some (.lst vs) ∧ PenC H' p pc (t + 50) ∧ TSame HJ H' ∧ (∀ b o, H b = some o → b ≠ p → H' b = some o)) (fun key => ?_) ?_
    · refine ⟨sz6, fun W6 hW6 => ?_⟩
      have sA := Same.new (.lst [.int 0, .int 0, .int 0, .int 1, .int 1, .int 2]) (Same.refl HJ) hW6
      refine ⟨_, rfl, p, 6, t + 30, pc, rfl, by decide, by decide, by omega, hPJ.same sA, fun HK n n0 n6 hPK kK => ?_⟩
      obtain ⟨j, rfl, hj⟩ := drawn (n := 6) n0 n6
      have eW6 := (hPJ.same sA).lst kK (upd_same (H := HJ) (a := W6))
      obtain ⟨v6', hv6⟩ : ∃ v, ([.int 0, .int 0, .int 0, .int 1, .int 1, .int 2] : List V)[j]? = some v := ⟨_, List.getElem?_eq_getElem hj⟩
      obtain ⟨n, rfl, hn⟩ := six j v6' hv6
      refine ⟨W6, _, _, _, rfl, rfl, SqL.of eW6, atI_nat hv6, (n : Int), rfl, by omega, by omega, ?_⟩
      rw [Int.toNat_natCast]
      have kJK : Keep p HJ HK := (Keep.of sA).trans kK
      refine for_range (lo := 0) (n := n) (fun i σ' H' => ∃ (v6 v7 : Option V) (ws : List V) (gds : List Gd), σ' = [some (.ref p), some (.ref l), some (.str nm), some (.ref C), some (.ref R), some (.ref G), v6, v7] ∧
        H' G = some (.lst ws) ∧ DTs H' ws (gds.map gdD) ∧ gds.length = i ∧ (∀ g ∈ gds, GdOk g) ∧ H' R = some (.lst vs) ∧ PenC H' p pc (t + 31 + i * 6) ∧ TSame HJ H' ∧ (∀ b o, H b = some o → b ≠ p → H' b = some o)) ?_ ?_ ?_
      · exact ⟨_, _, [], [], rfl, hPJ.lst kJK eG, .nil, rfl, (fun _ h => by cases h), hPJ.lst kJK eR, hPK, .keepC hPJ kJK, fun b o e nb => kJK b o nb (kk b o e nb)⟩
      · rintro i σ H8 hi ⟨v6, v7, ws, gds, rfl, eG8, dG, lG, okG, eR8, hP8, ts8, kk8⟩
        refine normG (σ' := [some (.ref p), some (.ref l), some (.str nm), some (.ref C), some (.ref R), some (.ref G), some (.int (0 + (i : Int))), v7]) rfl ?_
        refine ⟨_, rfl, .inl ⟨rfl, _, SqL.of eG8⟩, _, rfl, p, pc, t + 31 + i * 6, rfl, by omega, hP8, fun H9 v g gok dg hP9 k9 => ?_⟩
        have eG9 := hP8.lst k9 eG8
        have lws : ws.length < sizeLine := sz1l _ (by rw [dG.len, List.length_map]; omega)
        refine ⟨G, _, _, rfl, rfl, eG9, lws, ?_⟩
        have tsU : TSame H9 (upd H9 G (.lst (ws ++ [v]))) := .updL eG9
        refine ⟨_, _, ws ++ [v], gds ++ [g], rfl, upd_same, ((dG.keepC hP8 k9).to tsU).snoc (dg.to tsU), ?_, ?_, ?_, ?_, ts8.trans ((TSame.keepC hP8 k9).trans tsU), ?_⟩
        · rw [List.length_append, lG]
          rfl
        · intro g' hg
          rcases List.mem_append.mp hg with z | z
          · exact okG g' z
          · rw [List.mem_singleton.mp z]
            exact gok
        · rw [upd_ne nGR.symm]
          exact hP8.lst k9 eR8
        · exact hP9.upd (hP9.ne eG9 fun _ z => by cases z) hcG (by omega)
        · intro b o e nb
          have nbG : b ≠ G := fun z => by
            rw [z] at e
            exact nHG o e
          rw [upd_ne nbG]
          exact k9 b o nb (kk8 b o e nb)
      · rintro σ H8 ⟨v6, v7, ws, gds, rfl, eG8, dG, lG, okG, eR8, hP8, ts8, kk8⟩
        exact key _ _ ⟨_, _, ws, gds, rfl, eG8, dG, by omega, okG, eR8, hP8.mono (by omega), ts8, kk8⟩
    rintro σ HK ⟨v6, v7, ws, gds, rfl, eG2, dG, lG, okG, eR2, hPK, tsK, kk2⟩
    refine ⟨_, rfl, _, rfl, _, rfl, _, rfl, p, pc, -9, 99, t + 50, rfl, by decide, by decide, by omega, hPK, fun HL kc kc0 kc1 hPL kL => ?_⟩
    have eR3 := hPK.lst kL eR2
    have eG3 := hPK.lst kL eG2
    refine ⟨_, rfl, R, _, rfl, .inl ⟨SqL.of eR3, fun TR hTR => ?_⟩⟩
    have sM := Same.new (.tup vs) (Same.refl HL) hTR
    refine ⟨_, rfl, G, _, rfl, .inl ⟨SqL.of (sM _ _ eG3), fun TG hTG => ?_⟩⟩
    have sN := Same.new (.tup ws) sM hTG
    refine ⟨sz5, fun TS hTS => ?_⟩
    have sO := Same.new (.tup [.str nm, .ref C, .int kc, .ref TR, .ref TG]) sN hTS
    have tsE : TSame HJ (upd (upd (upd HL TR (.tup vs)) TG (.tup ws)) TS (.tup [.str nm, .ref C, .int kc, .ref TR, .ref TG])) := tsK.trans ((TSame.keepC hPK kL).trans (.of sO))
    have eTG := Same.new (.tup [.str nm, .ref C, .int kc, .ref TR, .ref TG]) (Same.refl _) hTS _ _ (upd_same (H := upd HL TR (.tup vs)) (a := TG) (o := .tup ws))
    have eTR := Same.new (.tup [.str nm, .ref C, .int kc, .ref TR, .ref TG]) (Same.new (.tup ws) (Same.refl _) hTG) hTS _ _ (upd_same (H := HL) (a := TR) (o := .tup vs))
    refine k _ _ ⟨nm, a - 1, b - 1, c - 2, kc, rds, gds⟩ ⟨nx _ hnm, ?_, by omega, by omega, by omega, lG, okR, okG⟩ ?_ ((hPL.same sO).mono (by omega)) ?_
    · show sm3 (a - 1) (b - 1) (c - 2)
      unfold sm3
      omega
    · refine .tup upd_same (.cons (.str _) (.cons ((dC6.to tsJ).to tsE) (.cons (.int _) (.cons (.tup eTR (dR.to tsE)) (.cons (.tup eTG ((dG.to (.keepC hPK kL)).to (.of sO))) .nil)))))
    · exact fun b o nb e => sO _ _ (kL b o nb (kk2 b o e nb))
end
end K28
set_option maxHeartbeats 4000000
namespace K28
open PySem PySem.Spec PyProof.Rows L2 Z
theorem three2 : ∀ (j : Nat) (v : V), ([.int 1, .int 1, .int 2] : List V)[j]? = some v → ∃ d : Int, v = .int d ∧ 1 ≤ d ∧ d ≤ 2 := by
  intro j v h
  match j, h with
  | 0, h => exact ⟨_, (Option.some.inj h).symm, by decide, by decide⟩
  | 1, h => exact ⟨_, (Option.some.inj h).symm, by decide, by decide⟩
  | 2, h => exact ⟨_, (Option.some.inj h).symm, by decide, by decide⟩
  | j + 3, h => cases h
theorem four3 : ∀ (j : Nat) (v : V), ([.int 1, .int 1, .int 2, .int 3] : List V)[j]? = some v → ∃ d : Int, v = .int d ∧ 1 ≤ d ∧ d ≤ 3 := by
  intro j v h
  match j, h with
  | 0, h => exact ⟨_, (Option.some.inj h).symm, by decide, by decide⟩
  | 1, h => exact ⟨_, (Option.some.inj h).symm, by decide, by decide⟩
  | 2, h => exact ⟨_, (Option.some.inj h).symm, by decide, by decide⟩
  | 3, h => exact ⟨_, (Option.some.inj h).symm, by decide, by decide⟩
  | j + 4, h => cases h
theorem if_w2 {b : Bool} {A : Prop} {j : Int} {σ : L2.St} {H : Hp} {Q : VK} (W : Int → Hp → Prop) (h1 : b = true → (∀ v H', W v H' → Q (.int v) H') → A) (h2 : b = false → W j H) (h3 : ∀ v H', W v H' → Q (.int v) H') : if b = true then A else tC (.int j) σ H Q := by
  cases b
  · exact h3 _ _ (h2 rfl)
  · exact h1 rfl h3
def Nms (H : Hp) (l : Addr) (xs : List Str) : Prop := H l = some (.lst (xs.map V.str)) ∧ 1 ≤ xs.length ∧ xs.length ≤ 3 ∧ ∀ x ∈ xs, NmOk x
def spSLoop : Sp := fun vs H Q _ => ∃ (p pc l : Addr) (xs : List Str) (t : Nat), vs = [.ref p, .ref l, .int 3] ∧ Nms H l xs ∧ t < 700000000 ∧ PenC H p pc t ∧
  ∀ H' v lp, LpOk lp → 1 ≤ lp.sts.length → DT H' v (lpD lp) → PenC H' p pc (t + 200) → Keep p H H' → Q v H'
section
variable {P : Program} {w : World} {K : PySem.W.Frag} {mg : Str → Option Value} {base : Heap}
theorem sc_law_small_loop : FnScope ["_law_pen_here", "_law_names_here", "_law_most", "_law_apart", "_law_low", "_law_high", "_law_inner", "_law_turn"] ["_law_pen_here", "_law_names_here", "_law_most"] (defScope s_law_small_loop) := ⟨rfl, rfl, rfl, by decide +kernel, rfl, by decide +kernel, by decide +kernel⟩
theorem ok_sloop {f : Addr} {fd : FuncData} (F : FnP K "_law_small_loop" s_law_small_loop f fd) (T : LwTx K mg) (dDraw : Dn P w K mg base 1 "_law_draw" ["_law_pen_here", "_law_many"] spDrawC)
    (dSStm : Dn P w K mg base 3 "_law_small_statement" ["_law_pen_here", "_law_names_here"] spSStm) :
    FnOk P w K mg base CX0 4 f fd ["_law_pen_here", "_law_names_here", "_law_most"] spSLoop := by
  refine F.ok sc_law_small_loop (fun vs H Q E h => ?_) (fun cdv A outer s H vs Q E hr h => ?_)
  · obtain ⟨p, pc, l, xs, t, rfl, _⟩ := h
    rfl
  · obtain ⟨p, pc, l, xs, t, rfl, ⟨hl, x1, x3, nx⟩, ht, hP, k⟩ := h
    refine ⟨_, PSs.nox (pss_cons (ps_set (i := 3) sc_law_small_loop.nd rfl (Or.inl rfl) (pe_ix ix_list (pe_lst (pa_cons pe_int (pa_cons pe_int (pa_cons pe_int (pa_cons pe_int (pa_cons pe_int pa_nil)))))) (pe_dn dDraw hr (pa_cons (pv 0) (pa_cons pe_int pa_nil))) (fun _ _ => rfl)))
      (pss_cons (ps_set (i := 4) sc_law_small_loop.nd rfl (Or.inl rfl) (pe_tup (pa_cons (pe_dn dDraw hr (pa_cons (pv 0) (pa_cons pe_int pa_nil))) (pa_cons (pe_op op_sub (pe_dn dDraw hr (pa_cons (pv 0) (pa_cons pe_int pa_nil))) pe_int) (pa_cons (pe_ifExp (pt_cmpR op_eq (pv 3) pe_int (nomark _)) (pe_ix ix_list (pe_lst (pa_cons pe_int (pa_cons pe_int (pa_cons pe_int pa_nil)))) (pe_dn dDraw hr (pa_cons (pv 0) (pa_cons pe_int pa_nil))) (fun _ _ => rfl)) pe_int) pa_nil)))))
      (pss_cons (ps_set (i := 5) sc_law_small_loop.nd rfl (Or.inl rfl) (pe_tup (pa_cons (pe_dn dDraw hr (pa_cons (pv 0) (pa_cons pe_int pa_nil))) (pa_cons (pe_op op_sub (pe_dn dDraw hr (pa_cons (pv 0) (pa_cons pe_int pa_nil))) pe_int) (pa_cons (pe_ix ix_list (pe_lst (pa_cons pe_int (pa_cons pe_int (pa_cons pe_int (pa_cons pe_int pa_nil))))) (pe_dn dDraw hr (pa_cons (pv 0) (pa_cons pe_int pa_nil))) (fun _ _ => rfl)) pa_nil)))))
      (pss_cons (ps_setLc (i := 6) (own := [("_law_turn", 7)]) (g := gName 7) (tt := tYes) rfl sc_law_small_loop.nd rfl rfl (sw_true rfl rfl rfl (by decide +kernel)) (pi_range1 (by rfl) T.range (pa_cons (pe_op op_add pe_int (pe_dn dDraw hr (pa_cons (pv 0) (pa_cons (pv 2) pa_nil)))) pa_nil)) (blkOk_by (N := ["_law_pen_here", "_law_names_here", "_law_most", "_law_apart", "_law_low", "_law_high", "_law_inner", "_law_turn"]) (sc := defScope s_law_small_loop) (by decide +kernel)) (fun _ _ _ _ _ => (pg_name (i := 7) sc_law_small_loop.nd rfl (.inl rfl))) (fun _ _ _ _ _ => pts_nil) (fun _ _ _ _ _ => (pe_dn dSStm hr (pa_cons (pv 0) (pa_cons (pv 1) pa_nil)))))
      (pss_one (ps_ret (pe_tup (pa_cons (pv 4) (pa_cons (pv 5) (pa_cons (pv 3) (pa_cons (pe_cmpR op_eq (pe_dn dDraw hr (pa_cons (pv 0) (pa_cons pe_int pa_nil))) pe_int (nomark _)) (pa_cons (pe_callTy call_tuple_of (by rfl) T.tuple (by decide +kernel) (pa_cons (pv 6) pa_nil)) pa_nil)))))))))))), ?_⟩
    refine ⟨sz5, fun W1 hW1 => ?_⟩
    have sA := Same.new (.lst [.int 1, .int 1, .int 1, .int 2, .int 3]) (Same.refl H) hW1
    refine ⟨_, rfl, p, 5, t, pc, rfl, by decide, by decide, by omega, hP.same sA, fun H1 d d0 d1 hP1 k1 => ?_⟩
    obtain ⟨j, rfl, hj⟩ := drawn (n := 5) d0 d1
    obtain ⟨v, hv⟩ : ∃ v, ([.int 1, .int 1, .int 1, .int 2, .int 3] : List V)[j]? = some v := ⟨_, List.getElem?_eq_getElem hj⟩
    obtain ⟨S, rfl, S1, S3⟩ := five j v hv
    refine ⟨W1, _, _, _, rfl, rfl, SqL.of ((hP.same sA).lst k1 upd_same), atI_nat hv, ?_⟩
    refine normG (σ' := [some (.ref p), some (.ref l), some (.int 3), some (.int S), none, none, none, none]) rfl ?_
    have kA : Keep p H H1 := (Keep.of sA).trans k1
    refine ⟨_, rfl, p, 2, t + 1, pc, rfl, by decide, by decide, by omega, hP1, fun H2 a a0 a1 hP2 k2 => ?_⟩
    refine ⟨_, rfl, p, 6, t + 2, pc, rfl, by decide, by decide, by omega, hP2, fun H3 b b0 b1 hP3 k3 => ⟨_, _, rfl, rfl, ?_⟩⟩
    have kB := kA.trans (k2.trans k3)
    refine ⟨_, rfl, rfl, _, rfl, ?_⟩
    refine if_w2 (fun d H' => 1 ≤ d ∧ d ≤ 2 ∧ (S = 1 ∨ d = 1) ∧ PenC H' p pc (t + 4) ∧ Keep p H H') (fun hb key => ?_) (fun _ => ⟨by decide, by decide, .inr rfl, hP3.mono (by omega), kB⟩) (fun d H4 hd => ?_)
    · refine ⟨sz3, fun W2 hW2 => ?_⟩
      have sW := Same.new (.lst [.int 1, .int 1, .int 2]) (Same.refl H3) hW2
      refine ⟨_, rfl, p, 3, t + 3, pc, rfl, by decide, by decide, by omega, hP3.same sW, fun H4 d d0 d1 hP4 k4 => ?_⟩
      obtain ⟨j, rfl, hj⟩ := drawn (n := 3) d0 d1
      obtain ⟨v, hv⟩ : ∃ v, ([.int 1, .int 1, .int 2] : List V)[j]? = some v := ⟨_, List.getElem?_eq_getElem hj⟩
      obtain ⟨d, rfl, e1, e2⟩ := three2 j v hv
      refine ⟨W2, _, _, _, rfl, rfl, SqL.of ((hP3.same sW).lst k4 upd_same), atI_nat hv, ?_⟩
      exact key _ _ ⟨e1, e2, .inl (V.int.inj (of_decide_eq_true hb)), hP4.mono (by omega), kB.trans ((Keep.of sW).trans k4)⟩
    obtain ⟨e1, e2, hSd, hP4, k4⟩ := hd
    refine ⟨sz3, fun TL hTL => ?_⟩
    obtain ⟨H5, eH5⟩ : ∃ L, L = upd H4 TL (.tup [.int a, .int (b - 3), .int d]) := ⟨_, rfl⟩
    have s5 : Same H4 H5 := by rw [eH5]; exact Same.new _ (Same.refl H4) hTL
    have dL : DT H5 (.ref TL) (i3 a (b - 3) d) := by rw [eH5]; exact gd3 upd_same
    rw [← eH5]
    have hP5 := hP4.same s5
    refine normG (σ' := [some (.ref p), some (.ref l), some (.int 3), some (.int S), some (.ref TL), none, none, none]) rfl ?_
    refine ⟨_, rfl, p, 3, t + 4, pc, rfl, by decide, by decide, by omega, hP5, fun H6 x y0 y1 hP6 k6 => ?_⟩
    refine ⟨_, rfl, p, 6, t + 5, pc, rfl, by decide, by decide, by omega, hP6, fun H7 z z0 z1 hP7 k7 => ⟨_, _, rfl, rfl, ?_⟩⟩
    refine ⟨sz4, fun W3 hW3 => ?_⟩
    have sW3 := Same.new (.lst [.int 1, .int 1, .int 2, .int 3]) (Same.refl H7) hW3
    refine ⟨_, rfl, p, 4, t + 6, pc, rfl, by decide, by decide, by omega, hP7.same sW3, fun H8 u u0 u1 hP8 k8 => ?_⟩
    obtain ⟨j3, rfl, hj3⟩ := drawn (n := 4) u0 u1
    obtain ⟨v3, hv3⟩ : ∃ v, ([.int 1, .int 1, .int 2, .int 3] : List V)[j3]? = some v := ⟨_, List.getElem?_eq_getElem hj3⟩
    obtain ⟨u, rfl, g1, g2⟩ := four3 j3 v3 hv3
    refine ⟨W3, _, _, _, rfl, rfl, SqL.of ((hP7.same sW3).lst k8 upd_same), atI_nat hv3, sz3, fun TH hTH => ?_⟩
    obtain ⟨H9, eH9⟩ : ∃ L, L = upd H8 TH (.tup [.int x, .int (z - 1), .int u]) := ⟨_, rfl⟩
    have s9 : Same H8 H9 := by rw [eH9]; exact Same.new _ (Same.refl H8) hTH
    have dH : DT H9 (.ref TH) (i3 x (z - 1) u) := by rw [eH9]; exact gd3 upd_same
    rw [← eH9]
    have hP9 := hP8.same s9
    have k59 : Keep p H5 H9 := k6.trans (k7.trans ((Keep.of sW3).trans (k8.trans (Keep.of s9))))
    have dL9 := dL.keepC hP5 k59
    have k09 : Keep p H H9 := k4.trans ((Keep.of s5).trans k59)
    have hl9 := hP.lst k09 hl
    refine normG (σ' := [some (.ref p), some (.ref l), some (.int 3), some (.int S), some (.ref TL), some (.ref TH), none, none]) rfl ?_
    refine ⟨_, rfl, _, rfl, p, 3, t + 7, pc, rfl, by decide, by decide, by omega, hP9, fun HA m m0 m1 hPA kA2 => ⟨_, _, rfl, rfl, ?_⟩⟩
    obtain ⟨n, hn⟩ : ∃ n : Nat, (n : Int) = 1 + m := ⟨(1 + m).toNat, by omega⟩
    refine ⟨(n : Int), congrArg (fun z => [V.int z]) hn.symm, by omega, by omega, ?_⟩
    rw [Int.toNat_natCast]
    have k0A : Keep p H HA := k09.trans kA2
    have hlA := hP.lst k0A hl
    intro D hD
    have hcD : D ≠ pc := by
      obtain ⟨o, ho⟩ := hPA.has
      exact (ne_of_none ho hD).symm
    have nHD : ∀ o, H D ≠ some o := fun o e => by
      have nDp : D ≠ p := (hPA.ne' hD).symm
      rw [k0A _ _ nDp e] at hD
      cases hD
    refine lc_range (lo := 0) (n := n) (fun i Hc => ∃ (vs : List V) (sts : List StM), Hc D = some (.lst vs) ∧ DTs Hc vs (sts.map stD) ∧ sts.length = i ∧ (∀ s ∈ sts, StOk s) ∧ PenC Hc p pc (t + 8 + i * 60) ∧ TSame HA Hc ∧ (∀ b o, H b = some o → b ≠ p → Hc b = some o)) ?_ ?_ ?_
    · exact ⟨[], [], upd_same, .nil, rfl, (fun _ h => by cases h), hPA.same (Same.new _ (Same.refl HA) hD), .new hD, fun b o e nb => Same.new _ (Same.refl HA) hD _ _ (k0A b o nb e)⟩
    · rintro i Hc hi ⟨vs, sts, eD, dD, lD, okD, hPc, tsc, kc⟩
      refine ⟨rfl, yes_of ?_⟩
      refine ⟨_, rfl, _, rfl, p, pc, l, xs, t + 8 + i * 60, rfl, kc _ _ hl (hP.ne hl fun _ z => by cases z), x1, x3, nx, by omega, hPc, fun H' v s sok dv hP' k' => ?_⟩
      have eD' := hPc.lst k' eD
      have tsU : TSame H' (upd H' D (.lst (vs ++ [v]))) := .updL eD'
      refine ⟨vs, eD', sz1l _ (by rw [dD.len, List.length_map]; omega), vs ++ [v], sts ++ [s], upd_same, ((dD.keepC hPc k').to tsU).snoc (dv.to tsU), ?_, ?_, ?_, tsc.trans ((TSame.keepC hPc k').trans tsU), ?_⟩
      · rw [List.length_append, lD]
        rfl
      · intro s' hs'
        rcases List.mem_append.mp hs' with z | z
        · exact okD s' z
        · rw [List.mem_singleton.mp z]
          exact sok
      · exact hP'.upd (hP'.ne eD' fun _ z => by cases z) hcD (by omega)
      · intro b o e nb
        have nbD : b ≠ D := fun z => by
          rw [z] at e
          exact nHD o e
        rw [upd_ne nbD]
        exact k' b o nb (kc b o e nb)
    rintro HB ⟨vs, sts, eD, dD, lD, okD, hPB, tsB, kB2⟩
    refine normG (σ' := [some (.ref p), some (.ref l), some (.int 3), some (.int S), some (.ref TL), some (.ref TH), some (.ref D), none]) rfl ?_
    refine ⟨_, rfl, _, rfl, _, rfl, ?_⟩
    refine ⟨_, rfl, p, 3, t + 8 + n * 60, pc, rfl, by decide, by decide, by omega, hPB, fun HE w w0 w1 hPE kE => ?_⟩
    have eDE := hPB.lst kE eD
    refine ⟨rfl, _, rfl, D, vs, rfl, .inl ⟨SqL.of eDE, fun TT hTT => ⟨sz5, fun TR hTR => ?_⟩⟩⟩
    have sF := Same.new (.tup [.ref TL, .ref TH, .int S, .bl (decide (V.int w = V.int 0)), .ref TT]) (Same.new (.tup vs) (Same.refl HE) hTT) hTR
    have eTT := Same.new (.tup [.ref TL, .ref TH, .int S, .bl (decide (V.int w = V.int 0)), .ref TT]) (Same.refl _) hTR _ _ (upd_same (H := HE) (a := TT) (o := .tup vs))
    have tsE := (TSame.keepC hPB kE).trans (TSame.of sF)
    have ts9 := (TSame.keepC hP9 kA2).trans (tsB.trans tsE)
    refine k _ _ ⟨a, b - 3, d, x, z - 1, u, S, decide (V.int w = V.int 0), sts⟩ ?_ (by show 1 ≤ sts.length; omega) (.tup upd_same (.cons (dL9.to ts9) (.cons (dH.to ts9) (.cons (.int _) (.cons (.bl _) (.cons (.tup eTT (dD.to tsE)) .nil)))))) ((hPE.same sF).mono (by omega)) ?_
    · refine ⟨a0, by show a ≤ 1; omega, by show -3 ≤ b - 3; omega, by show b - 3 ≤ 2; omega, e1, e2, y0, by show x ≤ 3; omega, by show -1 ≤ z - 1; omega, by show z - 1 ≤ 4; omega, g1, g2, S1, S3, ?_, Nat.zero_le _, by show sts.length ≤ 3; omega, okD⟩
      intro h
      have h' : 1 < S := h
      rcases hSd with q | q
      · omega
      · exact q
    · exact fun b' o nb e => sF _ _ (kE b' o nb (kB2 b' o e nb))
end
end K28
set_option maxHeartbeats 4000000
namespace K28
open PySem PySem.Spec PyProof.Rows L2 Z
def spSRows : Sp := fun vs H Q _ => ∃ (p pc : Addr) (L : Nat) (t : Nat), vs = [.ref p, .int (L : Int), .int 3] ∧ 1 ≤ L ∧ L ≤ 3 ∧ t < 600000000 ∧ PenC H p pc t ∧
  ∀ (H' : Hp) (r : Addr) (vs : List V) (lps : List LpM), H' r = some (.lst vs) → DTs H' vs (lps.map lpD) → lps.length = L → (∀ l ∈ lps, LpOk l ∧ 1 ≤ l.sts.length) → PenC H' p pc (t + 700) → Keep p H H' → H r = none → Q (.ref r) H'
section
variable {P : Program} {w : World} {K : PySem.W.Frag} {mg : Str → Option Value} {base : Heap}
theorem sc_law_small_rows : FnScope ["_law_pen_here", "_law_loops", "_law_most", "_law_names_here", "_law_turn"] ["_law_pen_here", "_law_loops", "_law_most"] (defScope s_law_small_rows) := ⟨rfl, rfl, rfl, by decide +kernel, rfl, by decide +kernel, by decide +kernel⟩
theorem ok_srows {f : Addr} {fd : FuncData} (F : FnP K "_law_small_rows" s_law_small_rows f fd) (T : LwTx K mg) (dDraw : Dn P w K mg base 1 "_law_draw" ["_law_pen_here", "_law_many"] spDrawC)
    (dNames : Dn P w K mg base 3 "_law_names" ["_law_pen_here", "_law_many"] spNames) (dSLoop : Dn P w K mg base 4 "_law_small_loop" ["_law_pen_here", "_law_names_here", "_law_most"] spSLoop) :
    FnOk P w K mg base CX0 5 f fd ["_law_pen_here", "_law_loops", "_law_most"] spSRows := by
  refine F.ok sc_law_small_rows (fun vs H Q E h => ?_) (fun cdv A outer s H vs Q E hr h => ?_)
  · obtain ⟨p, pc, L, t, rfl, _⟩ := h
    rfl
  · obtain ⟨p, pc, L, t, rfl, L1, L3, ht, hP, k⟩ := h
    refine ⟨_, PSs.nox (pss_cons (ps_set (i := 3) sc_law_small_rows.nd rfl (Or.inr rfl) (pe_dn dNames hr (pa_cons (pv 0) (pa_cons (pe_op op_add pe_int (pe_dn dDraw hr (pa_cons (pv 0) (pa_cons pe_int pa_nil)))) pa_nil))))
      (pss_one (ps_ret (pe_lc (own := [("_law_turn", 4)]) (g := gName 4) (tt := tYes) rfl sc_law_small_rows.nd (pi_range1 (by rfl) T.range (pa_cons (pv 1) pa_nil)) (blkOk_by (N := ["_law_pen_here", "_law_loops", "_law_most", "_law_names_here", "_law_turn"]) (sc := defScope s_law_small_rows) (by decide +kernel)) (fun _ _ _ _ _ => (pg_name (i := 4) sc_law_small_rows.nd rfl (.inl rfl))) (fun _ _ _ _ _ => pts_nil) (fun _ _ _ _ _ => (pe_dn dSLoop hr (pa_cons (pv 0) (pa_cons (pv 3) (pa_cons (pv 2) pa_nil))))))))), ?_⟩
    refine ⟨_, rfl, _, rfl, p, 3, t, pc, rfl, by decide, by decide, by omega, hP, fun H1 m m0 m1 hP1 k1 => ⟨_, _, rfl, rfl, ?_⟩⟩
    refine ⟨p, pc, 1 + m, t + 1, rfl, by omega, by omega, by omega, hP1, fun H2 l xs hl x1 x3 nx hP2 k2 => ?_⟩
    refine normG (σ' := [some (.ref p), some (.int (L : Int)), some (.int 3), some (.ref l), none]) rfl ?_
    have k02 : Keep p H H2 := k1.trans k2
    refine ⟨_, rfl, (L : Int), rfl, by omega, by omega, ?_⟩
    rw [Int.toNat_natCast]
    intro D hD
    have hcD : D ≠ pc := by
      obtain ⟨o, ho⟩ := hP2.has
      exact (ne_of_none ho hD).symm
    have nHD : ∀ o, H D ≠ some o := fun o e => by
      have nDp : D ≠ p := (hP2.ne' hD).symm
      rw [k02 _ _ nDp e] at hD
      cases hD
    have nlD : l ≠ D := ne_of_none hl hD
    refine lc_range (lo := 0) (n := L) (fun i Hc => ∃ (vs : List V) (lps : List LpM), Hc D = some (.lst vs) ∧ DTs Hc vs (lps.map lpD) ∧ lps.length = i ∧ (∀ l ∈ lps, LpOk l ∧ 1 ≤ l.sts.length) ∧ Nms Hc l xs ∧ PenC Hc p pc (t + 10 + i * 200) ∧ (∀ b o, H b = some o → b ≠ p → Hc b = some o)) ?_ ?_ ?_
    · exact ⟨[], [], upd_same, .nil, rfl, (fun _ h => by cases h), ⟨by rw [upd_ne nlD]; exact hl, x1, x3, nx⟩, (hP2.same (Same.new _ (Same.refl H2) hD)).mono (by omega), fun b o e nb => Same.new _ (Same.refl H2) hD _ _ (k02 b o nb e)⟩
    · rintro i Hc hi ⟨vs, lps, eD, dD, lD, okD, hn, hPc, kc⟩
      refine ⟨rfl, yes_of ?_⟩
      refine ⟨_, rfl, _, rfl, _, rfl, p, pc, l, xs, t + 10 + i * 200, rfl, hn, by omega, hPc, fun H' v lp lok lne dv hP' k' => ?_⟩
      have eD' := hPc.lst k' eD
      have tsU : TSame H' (upd H' D (.lst (vs ++ [v]))) := .updL eD'
      refine ⟨vs, eD', sz1l _ (by rw [dD.len, List.length_map]; omega), vs ++ [v], lps ++ [lp], upd_same, ((dD.keepC hPc k').to tsU).snoc (dv.to tsU), ?_, ?_, ⟨?_, hn.2⟩, ?_, ?_⟩
      · rw [List.length_append, lD]
        rfl
      · intro s' hs'
        rcases List.mem_append.mp hs' with z | z
        · exact okD s' z
        · rw [List.mem_singleton.mp z]
          exact ⟨lok, lne⟩
      · rw [upd_ne nlD]
        exact hPc.lst k' hn.1
      · exact hP'.upd (hP'.ne eD' fun _ z => by cases z) hcD (by omega)
      · intro b o e nb
        have nbD : b ≠ D := fun z => by
          rw [z] at e
          exact nHD o e
        rw [upd_ne nbD]
        exact k' b o nb (kc b o e nb)
    rintro HB ⟨vs, lps, eD, dD, lD, okD, hn, hPB, kB2⟩
    refine k _ D vs lps eD dD lD okD (hPB.mono (by omega)) (fun b o nb e => kB2 b o e nb) ?_
    cases hh : H D with
    | none => rfl
    | some o => exact absurd hh (nHD o)
end
section
variable {α : Type} {R R' : V → α → Prop} {vs : List V} {ms : List α} {v : V} {m : α}
def Fa (R : V → α → Prop) (vs : List V) (ms : List α) : Prop := vs.length = ms.length ∧ ∀ (i : Nat) (v : V) (m : α), vs[i]? = some v → ms[i]? = some m → R v m
theorem Fa.nil : Fa R [] [] := ⟨rfl, fun i v m h => by cases h⟩
theorem Fa.imp (h : Fa R vs ms) (k : ∀ v m, R v m → R' v m) : Fa R' vs ms := ⟨h.1, fun i v m a b => k v m (h.2 i v m a b)⟩
theorem Fa.at (h : Fa R vs ms) {i : Nat} (e : vs[i]? = some v) : ∃ m, ms[i]? = some m ∧ R v m := by
  obtain ⟨m, hm⟩ := zip_at h.1 e
  exact ⟨m, hm, h.2 i v m e hm⟩
theorem Fa.at' (h : Fa R vs ms) {i : Nat} (e : ms[i]? = some m) : ∃ v, vs[i]? = some v ∧ R v m := by
  have hi : i < ms.length := (List.getElem?_eq_some_iff.mp e).1
  have e2 := List.getElem?_eq_getElem (l := vs) (i := i) (by rw [h.1]; exact hi)
  exact ⟨_, e2, h.2 i _ m e2 e⟩
theorem Fa.snoc (h : Fa R vs ms) (k : R v m) : Fa R (vs ++ [v]) (ms ++ [m]) := by
  refine ⟨by rw [List.length_append, List.length_append, h.1]; rfl, fun i v' m' a b => ?_⟩
  by_cases hi : i < vs.length
  · rw [List.getElem?_append_left hi] at a
    rw [List.getElem?_append_left (by rw [← h.1]; exact hi)] at b
    exact h.2 i v' m' a b
  · have hl : i < (vs ++ [v]).length := (List.getElem?_eq_some_iff.mp a).1
    rw [List.length_append, List.length_singleton] at hl
    have e : i = vs.length := by omega
    subst e
    rw [List.getElem?_append_right (Nat.le_refl _), Nat.sub_self] at a
    rw [h.1, List.getElem?_append_right (Nat.le_refl _), Nat.sub_self] at b
    cases a
    cases b
    exact k
end
section
variable (K : PySem.W.Frag)
def GdOb (H : Hp) (v : V) : Gd → Prop
  | .lea a b c => ∃ p, v = .ref p ∧ AtlAt K H p (a.fdiv (g2 a b)) (b.fdiv (g2 a b)) (lf3 a b c)
  | .rst a b c m r => ∃ p, v = .ref p ∧ RstAt K H p (a.fmod m) (b.fmod m) m ((r - c).fmod m)
def RdOb (H : Hp) (v : V) (r : RdM) : Prop := ∃ p a b c d, v = .ref p ∧ RdAt K H p r.x a b c d r.f ∧ -12 ≤ a ∧ a ≤ 12 ∧ -12 ≤ b ∧ b ≤ 12 ∧ 1 ≤ d ∧ d ≤ 3 ∧ ∀ i n : Int, (a * i + b * n + c).fdiv d = (r.a * i + r.b * n + r.c).fdiv r.d
def StOb (H : Hp) (v : V) (s : StM) : Prop := ∃ p rs cs, v = .ref p ∧ StmAt K H p s.x s.a s.b s.c s.k rs cs ∧ Fa (RdOb K H) rs s.rds ∧ Fa (GdOb K H) cs s.gds
def RgF (t : P4) (a c d : Int) : Prop := t.1 = 0 ∧ 0 ≤ t.2.1 ∧ t.2.1 ≤ 3 ∧ -999 ≤ t.2.2.1 ∧ t.2.2.1 ≤ 999 ∧ 1 ≤ t.2.2.2 ∧ t.2.2.2 ≤ 3 ∧ ∀ n : Int, (t.2.1 * n + t.2.2.1).fdiv t.2.2.2 = (a * n + c).fdiv d
def LpOb (H : Hp) (v : V) (l : LpM) : Prop := ∃ p t u xs, v = .ref p ∧ LpAt K H p t u l.S l.dn xs ∧ RgF t l.l0 l.l1 l.l2 ∧ RgF u l.h0 l.h1 l.h2 ∧ Fa (StOb K H) xs l.sts
def PrOb (H : Hp) (v : V) (ls : List LpM) : Prop := ∃ p xs ys, v = .ref p ∧ PrAt K H p xs ys ∧ Fa (LpOb K H) xs ls
end
section
variable {K : PySem.W.Frag} {H H' : Hp} {v : V}
theorem ms_str {q : Addr} {a b c : Int} (s : MS H H') (h : StrAt K H q a b c) : StrAt K H' q a b c := by
  obtain ⟨dx, h⟩ := h
  exact ⟨dx, s _ _ h rfl⟩
theorem ms_plc {q : Addr} {a b c d : Int} (s : MS H H') (h : PlcAt K H q a b c d) : PlcAt K H' q a b c d := by
  obtain ⟨dx, q, h, h2⟩ := h
  exact ⟨dx, q, s _ _ h rfl, ms_str s h2⟩
theorem GdOb.ms {g : Gd} (h : GdOb K H v g) (s : MS H H') : GdOb K H' v g := by
  cases g with
  | lea a b c =>
    obtain ⟨p, e, dx, q, h1, h2⟩ := h
    exact ⟨p, e, dx, q, s _ _ h1 rfl, ms_str s h2⟩
  | rst a b c m r =>
    obtain ⟨p, e, dx, q, h1, h2⟩ := h
    exact ⟨p, e, dx, q, s _ _ h1 rfl, ms_str s h2⟩
theorem RdOb.ms {r : RdM} (h : RdOb K H v r) (s : MS H H') : RdOb K H' v r := by
  obtain ⟨p, a, b, c, d, e, ⟨dx, q, h1, h2⟩, k⟩ := h
  exact ⟨p, a, b, c, d, e, ⟨dx, q, s _ _ h1 rfl, ms_plc s h2⟩, k⟩
theorem StOb.ms {m : StM} (h : StOb K H v m) (s : MS H H') : StOb K H' v m := by
  obtain ⟨p, rs, cs, e, ⟨dx, q, r, g, h1, h2, h3, h4⟩, h5, h6⟩ := h
  exact ⟨p, rs, cs, e, ⟨dx, q, r, g, s _ _ h1 rfl, ms_str s h2, s.sqT h3, s.sqT h4⟩, h5.imp fun _ _ z => z.ms s, h6.imp fun _ _ z => z.ms s⟩
theorem LpOb.ms {l : LpM} (h : LpOb K H v l) (s : MS H H') : LpOb K H' v l := by
  obtain ⟨p, t, u, xs, e, ⟨dx, lo, hi, st, h1, h2, h3, h4⟩, h5, h6, h7⟩ := h
  exact ⟨p, t, u, xs, e, ⟨dx, lo, hi, st, s _ _ h1 rfl, ms_plc s h2, ms_plc s h3, s.sqT h4⟩, h5, h6, h7.imp fun _ _ z => z.ms s⟩
theorem PrOb.ms {ls : List LpM} (h : PrOb K H v ls) (s : MS H H') : PrOb K H' v ls := by
  obtain ⟨p, xs, ys, e, ⟨dx, l, a, d, h1, h2, h3⟩, h4⟩ := h
  exact ⟨p, xs, ys, e, ⟨dx, l, a, d, s _ _ h1 rfl, s.sqT h2, s.sqT h3⟩, h4.imp fun _ _ z => z.ms s⟩
theorem GdOb.same {g : Gd} (h : GdOb K H v g) (s : Same H H') : GdOb K H' v g := h.ms (.of s)
theorem RdOb.same {r : RdM} (h : RdOb K H v r) (s : Same H H') : RdOb K H' v r := h.ms (.of s)
theorem StOb.same {m : StM} (h : StOb K H v m) (s : Same H H') : StOb K H' v m := h.ms (.of s)
theorem LpOb.same {l : LpM} (h : LpOb K H v l) (s : Same H H') : LpOb K H' v l := h.ms (.of s)
theorem PrOb.same {ls : List LpM} (h : PrOb K H v ls) (s : Same H H') : PrOb K H' v ls := h.ms (.of s)
theorem pe_RK {X : Cx} {K : PySem.W.Frag} {e : Expr} {es : List Expr} {t : TA} {p pos : Pos} {k : Nat} {E : L2.St → XK} (hK : X.K = K) (T : AtTx K X.mg) (M : MkR X.prog X.w K X.mg X.base) (hr : Room k X.A) (hx : ∀ σ, PassesAt (L2.CX X.prog X.w) X σ (E σ)) (ha : PA X (e :: es) t) (hk : 5 ≤ k := by decide) (hg : Gl X "Rest" := by rfl)
    (he : starEach (e :: es) X.env = (false, eval e X.env) :: starEach es X.env := by rfl) (hpl : (backTo pos (starEach es X.env)).any (·.1) = false := by rfl) :
    PE X (.Call (.Name "Rest" p) (e :: es) [] pos) (fun σ H Q => t σ H fun vs H1 => ∃ v m r, vs = [v, .int m, .int r] ∧ rRst K v m r H1 (fun a b c => NewR K H1 (a.fmod m) (b.fmod m) m ((r - c).fmod m) Q) (E σ)) := by
  subst hK
  exact pe_R T M hr hx ha hk hg he hpl
end
theorem at3 {x y z u : V} {l : List V} : atI (x :: y :: z :: u :: l) 3 = some u := atI_nat (xs := x :: y :: z :: u :: l) (j := 3) rfl
theorem at4 {x y z u v : V} {l : List V} : atI (x :: y :: z :: u :: v :: l) 4 = some v := atI_nat (xs := x :: y :: z :: u :: v :: l) (j := 4) rfl
def spSum (K : PySem.W.Frag) : Sp := fun vs H Q _ => ∃ (q : Addr) (a b c : Int) (rest : List V), vs = [.ref q] ∧ H q = some (.tup (.int a :: .int b :: .int c :: rest)) ∧ ∀ r H', Same H H' → StrAt K H' r a b c → Q (.ref r) H'
def spMGuard (K : PySem.W.Frag) : Sp := fun vs H Q _ => ∃ (v : V) (g : Gd), vs = [v] ∧ DT H v (gdD g) ∧ GdOk g ∧ ∀ v' H', Same H H' → GdOb K H' v' g → Q v' H'
section
variable {P : Program} {w : World} {K : PySem.W.Frag} {mg : Str → Option Value} {base : Heap}
theorem sc_law_sum : FnScope ["_law_row"] ["_law_row"] (defScope s_law_sum) := ⟨rfl, rfl, rfl, by decide +kernel, rfl, by decide +kernel, by decide +kernel⟩
theorem ok_lsum {f : Addr} {fd : FuncData} (F : FnP K "_law_sum" s_law_sum f fd) (T : LwTx K mg) (M : MkS P w K mg base) : FnOk P w K mg base CX0 3 f fd ["_law_row"] (spSum K) := by
  refine F.ok sc_law_sum (fun vs H Q E h => ?_) (fun cdv A outer s H vs Q E hr h => ?_)
  · obtain ⟨q, a, b, c, rest, rfl, _⟩ := h
    rfl
  · obtain ⟨q, a, b, c, rest, rfl, hq, k⟩ := h
    refine ⟨_, PSs.nox (pss_one (ps_ret (pe_SK (K := K) rfl T.toStTx M hr (pa_cons (pe_ix (ix_tupK (K := K) rfl) (pv 0) pe_int (fun _ _ => rfl)) (pa_cons (pe_ix (ix_tupK (K := K) rfl) (pv 0) pe_int (fun _ _ => rfl)) (pa_cons (pe_ix (ix_tupK (K := K) rfl) (pv 0) pe_int (fun _ _ => rfl)) pa_nil)))))), ?_⟩
    refine ⟨_, rfl, q, _, _, _, rfl, rfl, SqT.of hq, at0, _, rfl, q, _, _, _, rfl, rfl, SqT.of hq, at1, _, rfl, q, _, _, _, rfl, rfl, SqT.of hq, at2, a, b, c, rfl, fun r H' s _ hr => k r H' s hr⟩
theorem sc_law_made_guard : FnScope ["_law_guard"] ["_law_guard"] (defScope s_law_made_guard) := ⟨rfl, rfl, rfl, by decide +kernel, rfl, by decide +kernel, by decide +kernel⟩
theorem ok_mguard {f : Addr} {fd : FuncData} (F : FnP K "_law_made_guard" s_law_made_guard f fd) (T : LwTx K mg) (MA : MkA P w K mg base) (MR : MkR P w K mg base) (dSum : Dn P w K mg base 3 "_law_sum" ["_law_row"] (spSum K)) : FnOk P w K mg base CX0 6 f fd ["_law_guard"] (spMGuard K) := by
  refine F.ok sc_law_made_guard (fun vs H Q E h => ?_) (fun cdv A outer s H vs Q E hr h => ?_)
  · obtain ⟨v, g, rfl, _⟩ := h
    rfl
  · obtain ⟨v, g, rfl, hd, hok, k⟩ := h
    refine ⟨_, PSs.nox (pss_cons (ps_if (pt_cmpR op_eq (pe_ix (ix_tupK (K := K) rfl) (pv 0) pe_int (fun _ _ => rfl)) pe_str (nomark _)) (pss_one (ps_ret (pe_RK (K := K) rfl T.toAtTx MR hr at_E0 (pa_cons (pe_dn dSum hr (pa_cons (pe_ix (ix_tupK (K := K) rfl) (pv 0) pe_int (fun _ _ => rfl)) pa_nil)) (pa_cons (pe_ix (ix_tupK (K := K) rfl) (pv 0) pe_int (fun _ _ => rfl)) (pa_cons (pe_ix (ix_tupK (K := K) rfl) (pv 0) pe_int (fun _ _ => rfl)) pa_nil)))))) pss_nil)
      (pss_one (ps_ret (pe_AK (K := K) rfl T.toAtTx MA hr (pa_cons (pe_dn dSum hr (pa_cons (pe_ix (ix_tupK (K := K) rfl) (pv 0) pe_int (fun _ _ => rfl)) pa_nil)) pa_nil))))), ?_⟩
    cases g with
    | lea a b c =>
      obtain ⟨q, xs, rfl, hq, ds⟩ := hd.tup'
      cases ds with
      | cons r1 r =>
        cases r with
        | cons r2 r =>
          cases r
          cases r1
          obtain ⟨t3, rfl, h3⟩ := dt3' r2
          refine ⟨_, rfl, q, _, _, _, rfl, rfl, SqT.of hq, at0, rfl, _, rfl, if_no (by decide +kernel) ?_⟩
          refine ⟨_, rfl, q, _, _, _, rfl, rfl, SqT.of hq, at1, t3, a, b, c, [], rfl, h3, fun r1 H1 s1 hr1 => ?_⟩
          refine ⟨.ref r1, a, b, c, rfl, .inl ⟨r1, rfl, hr1⟩, ?_, fun p2 H2 s2 h2 => k _ _ (s1.trans s2) ⟨p2, rfl, h2⟩⟩
          unfold GdOk sm3 at hok
          exact Nat.lt_of_le_of_lt (g2_le (N := 10) (by omega) (by omega)) (by decide)
    | rst a b c m r =>
      obtain ⟨q, xs, rfl, hq, ds⟩ := hd.tup'
      obtain ⟨hok, m2, m4, r0, r1⟩ := hok
      cases ds with
      | cons d1 ds =>
        cases ds with
        | cons d2 ds =>
          cases ds with
          | cons d3 ds =>
            cases ds with
            | cons d4 ds =>
              cases ds
              cases d1
              cases d3
              cases d4
              obtain ⟨t3, rfl, h3⟩ := dt3' d2
              refine ⟨_, rfl, q, _, _, _, rfl, rfl, SqT.of hq, at0, rfl, _, rfl, if_yes (by decide +kernel) ?_⟩
              refine ⟨_, rfl, q, _, _, _, rfl, rfl, SqT.of hq, at1, t3, a, b, c, [], rfl, h3, fun r1 H1 s1 hr1 => ?_⟩
              have hq1 := s1 _ _ hq
              refine ⟨_, rfl, q, _, _, _, rfl, rfl, SqT.of hq1, at2, _, rfl, q, _, _, _, rfl, rfl, SqT.of hq1, at3, .ref r1, m, r, rfl, a, b, c, .inl ⟨r1, rfl, hr1⟩, fun z => absurd ⟨m2, m4⟩ z, fun _ _ z => absurd ⟨r0, by omega⟩ z, fun _ _ _ _ p2 H2 s2 h2 => k _ _ (s1.trans s2) ⟨p2, rfl, h2⟩⟩
end
end K28
set_option maxHeartbeats 4000000
namespace K28
open PySem PySem.Spec PyProof.Rows L2 Z
theorem pe_PK {X : Cx} {K : PySem.W.Frag} {e : Expr} {es : List Expr} {t : TA} {p pos : Pos} {k : Nat} {E : L2.St → XK} (hK : X.K = K) (T : PlTx K X.mg) (M : MkP X.prog X.w K X.mg X.base) (hr : Room k X.A) (hx : ∀ σ, PassesAt (L2.CX X.prog X.w) X σ (E σ)) (ha : PA X (e :: es) t) (hk : 5 ≤ k := by decide) (hg : Gl X "Place" := by rfl)
    (he : starEach (e :: es) X.env = (false, eval e X.env) :: starEach es X.env := by rfl) (hpl : (backTo pos (starEach es X.env)).any (·.1) = false := by rfl) :
    PE X (.Call (.Name "Place" p) (e :: es) [] pos) (fun σ H Q => t σ H fun vs H1 => ∃ v d, vs = [v, .int d] ∧ rPlG K v d H1 Q (E σ)) := by
  subst hK
  exact pe_P T M hr hx ha hk hg he hpl
theorem ck_name {x : Str} (h : NmOk x) : ckA x = none := if_pos h.1
theorem ckn_ok {w : Str} {v lo hi : Int} (h1 : lo ≤ v) (h2 : v ≤ hi) : ckN w v lo hi = none := if_pos ⟨h1, h2⟩
theorem cks_ok {a b c : Int} (h1 : -12 ≤ a) (h2 : a ≤ 12) (h3 : -12 ≤ b) (h4 : b ≤ 12) (h5 : -999 ≤ c) (h6 : c ≤ 999) : ckS a b c = none := by
  unfold ckS
  rw [ckn_ok h1 h2, ckn_ok h3 h4, ckn_ok h5 h6]
  rfl
def spMStm (K : PySem.W.Frag) : Sp := fun vs H Q _ => ∃ (v : V) (s : StM), vs = [v] ∧ DT H v (stD s) ∧ StOk s ∧ ∀ v' H', Same H H' → StOb K H' v' s → Q v' H'
theorem dt_rd {H : Hp} {v : V} {r : RdM} (h : DT H v (rdD r)) : ∃ t q, v = .ref t ∧ H t = some (.tup [.str r.x, .ref q, .int r.f]) ∧ H q = some (.tup [.int r.a, .int r.b, .int r.c, .int r.d]) := by
  obtain ⟨t, xs, rfl, ht, ds⟩ := h.tup'
  cases ds with
  | cons d1 ds =>
    cases ds with
    | cons d2 ds =>
      cases ds with
      | cons d3 ds =>
        cases ds
        cases d1
        cases d3
        obtain ⟨q, rfl, hq⟩ := dt4' d2
        exact ⟨t, q, rfl, ht, hq⟩
theorem dt_st {H : Hp} {v : V} {s : StM} (h : DT H v (stD s)) : ∃ t q tr tg xs ys, v = .ref t ∧ H t = some (.tup [.str s.x, .ref q, .int s.k, .ref tr, .ref tg]) ∧ H q = some (.tup [.int s.a, .int s.b, .int s.c]) ∧
    H tr = some (.tup xs) ∧ DTs H xs (s.rds.map rdD) ∧ H tg = some (.tup ys) ∧ DTs H ys (s.gds.map gdD) := by
  obtain ⟨t, xs, rfl, ht, ds⟩ := h.tup'
  cases ds with
  | cons d1 ds =>
    cases ds with
    | cons d2 ds =>
      cases ds with
      | cons d3 ds =>
        cases ds with
        | cons d4 ds =>
          cases ds with
          | cons d5 ds =>
            cases ds
            cases d1
            cases d3
            obtain ⟨q, rfl, hq⟩ := dt3' d2
            obtain ⟨tr, xr, rfl, hr, dr⟩ := d4.tup'
            obtain ⟨tg, xg, rfl, hg, dg⟩ := d5.tup'
            exact ⟨t, q, tr, tg, xr, xg, rfl, ht, hq, hr, dr, hg, dg⟩
theorem dt_lp {H : Hp} {v : V} {l : LpM} (h : DT H v (lpD l)) : ∃ t q1 q2 ts xs, v = .ref t ∧ H t = some (.tup [.ref q1, .ref q2, .int l.S, .bl l.dn, .ref ts]) ∧ H q1 = some (.tup [.int l.l0, .int l.l1, .int l.l2]) ∧ H q2 = some (.tup [.int l.h0, .int l.h1, .int l.h2]) ∧
    H ts = some (.tup xs) ∧ DTs H xs (l.sts.map stD) := by
  obtain ⟨t, xs, rfl, ht, ds⟩ := h.tup'
  cases ds with
  | cons d1 ds =>
    cases ds with
    | cons d2 ds =>
      cases ds with
      | cons d3 ds =>
        cases ds with
        | cons d4 ds =>
          cases ds with
          | cons d5 ds =>
            cases ds
            cases d3
            cases d4
            obtain ⟨q1, rfl, h1⟩ := dt3' d1
            obtain ⟨q2, rfl, h2⟩ := dt3' d2
            obtain ⟨ts, xt, rfl, h5, d5⟩ := d5.tup'
            exact ⟨t, q1, q2, ts, xt, rfl, ht, h1, h2, h5, d5⟩
theorem fmod_small {x m : Int} (h2 : 2 ≤ m) (h4 : m ≤ 4) : 0 ≤ x.fmod m ∧ x.fmod m ≤ 3 := by
  have := fmod_range (x := x) (show 0 < m by omega)
  omega
/-- the sums of conditions, all within their bounds -/
theorem cnds_of {K : PySem.W.Frag} {mg : Str → Option Value} (T : LwTx K mg) {H : Hp} {ws : List V} {gs : List Gd} (ok : ∀ g ∈ gs, GdOk g) (f : Fa (GdOb K H) ws gs) : ∃ cc, Cnds K H ws cc ∧ ckCs cc = none := by
  refine ⟨gs.map fun g => match g with | .lea a b c => (a.fdiv (g2 a b), b.fdiv (g2 a b), lf3 a b c) | .rst a b _ m _ => (a.fmod m, b.fmod m, 0), ⟨by rw [f.1, List.length_map], fun i v t h1 h2 => ?_⟩, ?_⟩
  · rw [List.getElem?_map] at h2
    obtain ⟨g, hg, rfl⟩ := Option.map_eq_some_iff.mp h2
    have h := f.2 i v g h1 hg
    cases g with
    | lea a b c =>
      obtain ⟨p, e, dx, q, h3, h4⟩ := h
      exact ⟨p, _, dx, _, q, e, h3, T.clA, T.nAS, af_s _, h4⟩
    | rst a b c m r =>
      obtain ⟨p, e, dx, q, h3, h4⟩ := h
      exact ⟨p, _, dx, _, q, e, h3, T.clQ, T.nRS, rf_s _ _ _, h4⟩
  · clear f
    induction gs with
    | nil => rfl
    | cons g gs ih =>
      have ih := ih fun g' h => ok g' (List.mem_cons_of_mem _ h)
      have ok := ok g (List.mem_cons_self ..)
      rw [List.map_cons]
      show (ckS _ _ _).or (ckCs _) = none
      rw [ih]
      cases g with
      | lea a b c =>
        obtain ⟨h1, h2, h3, h4, h5, h6⟩ := ok
        have q : ckS (a.fdiv (g2 a b)) (b.fdiv (g2 a b)) (lf3 a b c) = none := by
          unfold lf3
          by_cases z : g2 a b = 0
          · obtain ⟨rfl, rfl⟩ := g2_zero z
            rw [if_pos z, Int.zero_fdiv]
            split
            · exact cks_ok (by decide) (by decide) (by decide) (by decide) (by decide) (by decide)
            · exact cks_ok (by decide) (by decide) (by decide) (by decide) (by decide) (by decide)
          · rw [if_neg z]
            have g0 : (0 : Int) < (g2 a b : Int) := by omega
            have ga := fdiv_bd (x := a) (M := 12) g0 (by decide) (by omega) (by omega)
            have gb := fdiv_bd (x := b) (M := 12) g0 (by decide) (by omega) (by omega)
            have gc := fdiv_bd (x := c) (M := 999) g0 (by decide) (by omega) (by omega)
            exact cks_ok ga.1 ga.2 gb.1 gb.2 gc.1 gc.2
        dsimp only
        rw [q]
        rfl
      | rst a b c m r =>
        obtain ⟨h1, h2, h3, _, _⟩ := ok
        have fa := fmod_small (x := a) h2 h3
        have fb := fmod_small (x := b) h2 h3
        dsimp only
        rw [cks_ok (by omega) (by omega) (by omega) (by omega) (by decide) (by decide)]
        rfl
section
variable {P : Program} {w : World} {K : PySem.W.Frag} {mg : Str → Option Value} {base : Heap}
theorem sc_law_made_statement : FnScope ["_law_row", "_law_read", "_law_one", "_law_guards", "_law_guard"] ["_law_row"] (defScope s_law_made_statement) := ⟨rfl, rfl, rfl, by decide +kernel, rfl, by decide +kernel, by decide +kernel⟩
theorem ok_mstm {f : Addr} {fd : FuncData} (F : FnP K "_law_made_statement" s_law_made_statement f fd) (T : LwTx K mg) (MP : MkP P w K mg base) (MRd : MkRd P w K mg base) (MSt : MkSt P w K mg base) (dSum : Dn P w K mg base 3 "_law_sum" ["_law_row"] (spSum K))
    (dMGuard : Dn P w K mg base 6 "_law_made_guard" ["_law_guard"] (spMGuard K)) : FnOk P w K mg base CX0 9 f fd ["_law_row"] (spMStm K) := by
  refine F.ok sc_law_made_statement (fun vs H Q E h => ?_) (fun cdv A outer s H vs Q E hr h => ?_)
  · obtain ⟨v, m, rfl, _⟩ := h
    rfl
  · obtain ⟨v, m, rfl, hd, hok, k⟩ := h
    refine ⟨_, PSs.nox (pss_cons (ps_setLc (i := 1) (own := [("_law_one", 2)]) (g := gName 2) (tt := tYes) rfl sc_law_made_statement.nd rfl rfl (sw_true rfl rfl rfl (by decide +kernel)) (pi_tup (pe_ix (ix_tupK (K := K) rfl) (pv 0) pe_int (fun _ _ => rfl))) (blkOk_by (N := ["_law_row", "_law_read", "_law_one", "_law_guards", "_law_guard"]) (sc := defScope s_law_made_statement) (by decide +kernel)) (fun _ _ _ _ _ => (pg_name (i := 2) sc_law_made_statement.nd rfl (.inl rfl))) (fun _ _ _ _ _ => pts_nil) (fun _ _ _ _ _ => (pe_RdK (K := K) MRd rfl hr at_E0 (pa_cons (pe_ix (ix_tupK (K := K) rfl) (pv 2) pe_int (fun _ _ => rfl)) (pa_cons (pe_PK (K := K) rfl T.plc MP hr at_E0 (pa_cons (pe_dn dSum hr (pa_cons (pe_ix (ix_tupK (K := K) rfl) (pv 2) pe_int (fun _ _ => rfl)) pa_nil)) (pa_cons (pe_ix (ix_tupK (K := K) rfl) (pe_ix (ix_tupK (K := K) rfl) (pv 2) pe_int (fun _ _ => rfl)) pe_int (fun _ _ => rfl)) pa_nil))) pa_nil)) (pk_cons (pe_ix (ix_tupK (K := K) rfl) (pv 2) pe_int (fun _ _ => rfl)) pk_nil))))
      (pss_cons (ps_setLc (i := 3) (own := [("_law_guard", 4)]) (g := gName 4) (tt := tYes) rfl sc_law_made_statement.nd rfl rfl (sw_true rfl rfl rfl (by decide +kernel)) (pi_tup (pe_ix (ix_tupK (K := K) rfl) (pv 0) pe_int (fun _ _ => rfl))) (blkOk_by (N := ["_law_row", "_law_read", "_law_one", "_law_guards", "_law_guard"]) (sc := defScope s_law_made_statement) (by decide +kernel)) (fun _ _ _ _ _ => (pg_name (i := 4) sc_law_made_statement.nd rfl (.inl rfl))) (fun _ _ _ _ _ => pts_nil) (fun _ _ _ _ _ => (pe_dn dMGuard hr (pa_cons (pv 4) pa_nil))))
      (pss_one (ps_ret (pe_StK2 (K := K) MSt rfl hr at_E0 (pa_cons (pe_ix (ix_tupK (K := K) rfl) (pv 0) pe_int (fun _ _ => rfl)) (pa_cons (pe_dn dSum hr (pa_cons (pe_ix (ix_tupK (K := K) rfl) (pv 0) pe_int (fun _ _ => rfl)) pa_nil)) (pa_cons (pe_ix (ix_tupK (K := K) rfl) (pv 0) pe_int (fun _ _ => rfl)) pa_nil))) (pk_cons (pv 1) (pk_cons (pv 3) pk_nil))))))), ?_⟩
    obtain ⟨t, q, tr, tg, xr, xg, rfl, ht, hq, hr', dr, hg, dg⟩ := dt_st hd
    obtain ⟨nmx, ⟨sa0, sa1, sb0, sb1, sc0, sc1⟩, k0, k1, lr, lg, okr, okg⟩ := hok
    refine ⟨_, rfl, t, _, _, _, rfl, rfl, SqT.of ht, at3, tr, rfl, ⟨_, SqT.of hr'⟩, fun D hD => ?_⟩
    -- the reads
    refine lc_tup (K := K) (xs := xr) (fun i Hc => ∃ vs, Hc D = some (.lst vs) ∧ Fa (RdOb K Hc) vs (m.rds.take i) ∧ Same H Hc) ⟨[], upd_same, .nil, Same.new _ (Same.refl H) hD⟩ (fun i Hc _ z => SqT.of (z.choose_spec.2.2 _ _ hr')) ?_ ?_
    · rintro i v Hc hv ⟨vs, eD, fa, sc⟩
      obtain ⟨r, er, dv⟩ := (dr.to (.of sc)).map' hv
      obtain ⟨t4, q4, rfl, h4, hq4⟩ := dt_rd dv
      obtain ⟨rnm, ⟨ra0, ra1, rb0, rb1, rc0, rc1⟩, rd0, rd1, rf0, rf1, rf2⟩ := okr r (List.mem_of_getElem? er)
      refine ⟨rfl, yes_of ?_⟩
      refine ⟨_, rfl, t4, _, _, _, rfl, rfl, SqT.of h4, at0, _, rfl, t4, _, _, _, rfl, rfl, SqT.of h4, at1, q4, r.a, r.b, r.c, _, rfl, hq4, fun r1 H1 s1 hr1 => ?_⟩
      have h4' := s1 _ _ h4
      refine ⟨_, rfl, t4, _, _, _, rfl, rfl, SqT.of h4', at1, _, _, _, _, rfl, rfl, SqT.of (s1 _ _ hq4), at3, .ref r1, r.d, rfl, r.a, r.b, r.c, .inl ⟨r1, rfl, hr1⟩, (fun z => absurd z (by omega)), fun d1 => ⟨?_, fun pp H2 s2 hpp => ?_⟩⟩
      · have := gg_le (a := r.a) (b := r.b) (d := r.d) (by omega)
        omega
      have g0 := gg_pos (a := r.a) (b := r.b) (d := r.d) (by omega)
      have ga := fdiv_bd (x := r.a) (M := 12) (g := (gg r.a r.b r.d : Int)) (by omega) (by decide) (by omega) (by omega)
      have gb := fdiv_bd (x := r.b) (M := 12) (g := (gg r.a r.b r.d : Int)) (by omega) (by decide) (by omega) (by omega)
      have gc := fdiv_bd (x := r.c) (M := 999) (g := (gg r.a r.b r.d : Int)) (by omega) (by decide) (by omega) (by omega)
      have gd := dv_bd (a := r.a) (b := r.b) (d := r.d) (by omega)
      refine ⟨_, rfl, t4, _, _, _, rfl, rfl, SqT.of (s2 _ _ h4'), at2, rfl, rfl, r.x, .ref pp, r.f, _, _, _, _, rfl, Nat.le_trans rnm.2.1 (by decide), .inl ⟨pp, rfl, hpp⟩, Out.ok ?_ fun p3 H3 s3 h3 => ?_⟩
      · unfold ckRead ckP
        rw [ck_name rnm, if_neg rf0, ckn_ok rf1 rf2, cks_ok ga.1 ga.2 gb.1 gb.2 gc.1 gc.2, ckn_ok gd.1 (by omega)]
        rfl
      have s13 := s1.trans (s2.trans s3)
      have eD3 := s13 _ _ eD
      refine ⟨vs, eD3, sz1l _ ?_, vs ++ [.ref p3], upd_same, ?_, fun b o e => ?_⟩
      · rw [fa.1, List.length_take]
        omega
      · rw [List.take_add_one, er]
        have msU : MS H3 (upd H3 D (.lst (vs ++ [.ref p3]))) := .updL eD3
        exact (fa.imp fun _ _ z => (z.same s13).ms msU).snoc (RdOb.ms ⟨p3, _, _, _, _, rfl, h3, ga.1, ga.2, gb.1, gb.2, gd.1, by omega, fun i n => val_least (by omega)⟩ msU)
      · rw [upd_ne (ne_of_none e hD)]
        exact s13 _ _ (sc b o e)
    rintro H1 ⟨vs, eD, fa, s1⟩
    have lxr : xr.length = m.rds.length := by rw [dr.len, List.length_map]
    rw [lxr, List.take_length] at fa
    refine normG (σ' := [some (.ref t), some (.ref D), none, none, none]) rfl ?_
    -- the conditions
    refine ⟨_, rfl, t, _, _, _, rfl, rfl, SqT.of (s1 _ _ ht), at4, tg, rfl, ⟨_, SqT.of (s1 _ _ hg)⟩, fun D2 hD2 => ?_⟩
    refine lc_tup (K := K) (xs := xg) (fun i Hc => ∃ ws, Hc D2 = some (.lst ws) ∧ Fa (GdOb K Hc) ws (m.gds.take i) ∧ Same H1 Hc) ⟨[], upd_same, .nil, Same.new _ (Same.refl H1) hD2⟩ (fun i Hc _ z => SqT.of (z.choose_spec.2.2 _ _ (s1 _ _ hg))) ?_ ?_
    · rintro i v Hc hv ⟨ws, eD2, fg, sc⟩
      obtain ⟨g, eg, dv⟩ := (dg.to (.of (s1.trans sc))).map' hv
      refine ⟨rfl, yes_of ?_⟩
      refine ⟨_, rfl, v, g, rfl, dv, okg g (List.mem_of_getElem? eg), fun v' H' s' hv' => ?_⟩
      have eD3 := s' _ _ eD2
      refine ⟨ws, eD3, sz1l _ ?_, ws ++ [v'], upd_same, ?_, fun b o e => ?_⟩
      · rw [fg.1, List.length_take]
        omega
      · rw [List.take_add_one, eg]
        have msU : MS H' (upd H' D2 (.lst (ws ++ [v']))) := .updL eD3
        exact (fg.imp fun _ _ z => (z.same s').ms msU).snoc (hv'.ms msU)
      · rw [upd_ne (ne_of_none e hD2)]
        exact s' _ _ (sc b o e)
    rintro H2 ⟨ws, eD2, fg, s2⟩
    have lxg : xg.length = m.gds.length := by rw [dg.len, List.length_map]
    rw [lxg, List.take_length] at fg
    refine normG (σ' := [some (.ref t), some (.ref D), none, some (.ref D2), none]) rfl ?_
    have s12 := s1.trans s2
    refine ⟨_, rfl, t, _, _, _, rfl, rfl, SqT.of (s12 _ _ ht), at0, _, rfl, t, _, _, _, rfl, rfl, SqT.of (s12 _ _ ht), at1, q, m.a, m.b, m.c, [], rfl, s12 _ _ hq, fun r1 H3 s3 hr1 => ?_⟩
    refine ⟨_, rfl, t, _, _, _, rfl, rfl, SqT.of (s3 _ _ (s12 _ _ ht)), at2, _, rfl, _, rfl, rfl, rfl, ?_⟩
    obtain ⟨cc, hcc, hck⟩ := cnds_of T okg fg
    refine ⟨m.x, .ref r1, m.k, D, D2, vs, ws, cc, m.a, m.b, m.c, rfl, Nat.le_trans nmx.2.1 (by decide), .inl ⟨r1, rfl, hr1⟩, .inl (SqL.of (s3 _ _ (s2 _ _ eD))), .inl (SqL.of (s3 _ _ eD2)), hcc.same s3, Out.ok ?_ fun p4 H4 s4 h4 => ?_⟩
    · unfold ckStm ckM
      rw [fa.1, fg.1, if_pos (by omega), if_pos (by omega), ck_name nmx, hck, cks_ok (by omega) (by omega) (by omega) (by omega) (by omega) (by omega), ckn_ok (by omega) (by omega)]
      rfl
    · exact k _ _ (s12.trans (s3.trans s4)) ⟨p4, vs, ws, rfl, h4, fa.imp fun _ _ z => z.same (s2.trans (s3.trans s4)), fg.imp fun _ _ z => z.same (s3.trans s4)⟩
end
end K28
set_option maxHeartbeats 4000000
namespace K28
open PySem PySem.Spec PyProof.Rows L2 Z
def spMLoop (K : PySem.W.Frag) : Sp := fun vs H Q _ => ∃ (v : V) (l : LpM), vs = [v] ∧ DT H v (lpD l) ∧ LpOk l ∧ ∀ v' H', Same H H' → LpOb K H' v' l → Q v' H'
/-- a program of these loops, its arrays in order -/
def nms (ls : List LpM) : List Str := (ls.map fun l => (l.sts.map fun m => m.x :: m.rds.map (·.x)).flatten).flatten
def PrObA (K : PySem.W.Frag) (H : Hp) (v : V) (ls : List LpM) : Prop := ∃ p xs ys, v = .ref p ∧ PrAt K H p xs ys ∧ Fa (LpOb K H) xs ls ∧ ys.Nodup ∧ (∀ x, x ∈ ys ↔ x ∈ nms ls) ∧ sortedS ys = true
theorem PrObA.ob {K : PySem.W.Frag} {H : Hp} {v : V} {ls : List LpM} (h : PrObA K H v ls) : PrOb K H v ls := by
  obtain ⟨p, xs, ys, e, h1, h2, _⟩ := h
  exact ⟨p, xs, ys, e, h1, h2⟩
def spMade (K : PySem.W.Frag) : Sp := fun vs H Q _ => ∃ (r : Addr) (xs : List V) (ls : List LpM), vs = [.ref r] ∧ H r = some (.lst xs) ∧ DTs H xs (ls.map lpD) ∧ ls.length ≤ 3 ∧ (∀ l ∈ ls, LpOk l) ∧ ∀ v' H', Same H H' → PrObA K H' v' ls → Q v' H'
def lf4 (a c d : Int) : P4 := ((0 : Int).fdiv (gg 0 a d), a.fdiv (gg 0 a d), c.fdiv (gg 0 a d), d.fdiv (gg 0 a d))
/-- a place of the size alone, in least form -/
theorem rg_least {a c d : Int} (a0 : 0 ≤ a) (a3 : a ≤ 3) (c0 : -999 ≤ c) (c1 : c ≤ 999) (d1 : 1 ≤ d) (d3 : d ≤ 3) : RgF (lf4 a c d) a c d := by
  have g0 := gg_pos (a := 0) (b := a) (d := d) (by omega)
  have ga := fdiv_bd (x := a) (M := 3) (g := (gg 0 a d : Int)) (by omega) (by decide) (by omega) (by omega)
  have gan := fdiv_nn (x := a) (m := (gg 0 a d : Int)) a0 (by omega)
  have gc := fdiv_bd (x := c) (M := 999) (g := (gg 0 a d : Int)) (by omega) (by decide) (by omega) (by omega)
  have gd := dv_bd (a := 0) (b := a) (d := d) (by omega)
  refine ⟨Int.zero_fdiv ((gg 0 a d : Nat) : Int), gan, ga.2, gc.1, gc.2, gd.1, Int.le_trans gd.2 d3, fun n => ?_⟩
  have e := val_least (a := 0) (b := a) (c := c) (d := d) (i := 0) (n := n) (by omega)
  simp only [Int.mul_zero, Int.zero_add] at e
  exact e
theorem rg_ck {t : P4} {a c d : Int} (h : RgF t a c d) : ckR t.1 t.2.1 t.2.2.1 t.2.2.2 = none := by
  obtain ⟨h1, h2, h3, h4, h5, h6, h7, _⟩ := h
  unfold ckR
  rw [ckn_ok (by omega) (by omega), ckn_ok h2 h3, ckn_ok h4 h5, ckn_ok h6 h7]
  rfl
section
variable {P : Program} {w : World} {K : PySem.W.Frag} {mg : Str → Option Value} {base : Heap}
theorem sc_law_made_loop : FnScope ["_law_row", "_law_low", "_law_high", "_law_one"] ["_law_row"] (defScope s_law_made_loop) := ⟨rfl, rfl, rfl, by decide +kernel, rfl, by decide +kernel, by decide +kernel⟩
theorem ok_mloop {f : Addr} {fd : FuncData} (F : FnP K "_law_made_loop" s_law_made_loop f fd) (T : LwTx K mg) (M : MkS P w K mg base) (MP : MkP P w K mg base) (MLp : MkLp P w K mg base) (dMStm : Dn P w K mg base 9 "_law_made_statement" ["_law_row"] (spMStm K)) : FnOk P w K mg base CX0 10 f fd ["_law_row"] (spMLoop K) := by
  refine F.ok sc_law_made_loop (fun vs H Q E h => ?_) (fun cdv A outer s H vs Q E hr h => ?_)
  · obtain ⟨v, m, rfl, _⟩ := h
    rfl
  · obtain ⟨v, m, rfl, hd, hok, k⟩ := h
    refine ⟨_, PSs.nox (pss_cons (ps_set (i := 1) sc_law_made_loop.nd rfl (Or.inl rfl) (pe_PK (K := K) rfl T.plc MP hr at_E0 (pa_cons (pe_SK (K := K) rfl T.toStTx M hr (pa_cons pe_int (pa_cons (pe_ix (ix_tupK (K := K) rfl) (pe_ix (ix_tupK (K := K) rfl) (pv 0) pe_int (fun _ _ => rfl)) pe_int (fun _ _ => rfl)) (pa_cons (pe_ix (ix_tupK (K := K) rfl) (pe_ix (ix_tupK (K := K) rfl) (pv 0) pe_int (fun _ _ => rfl)) pe_int (fun _ _ => rfl)) pa_nil)))) (pa_cons (pe_ix (ix_tupK (K := K) rfl) (pe_ix (ix_tupK (K := K) rfl) (pv 0) pe_int (fun _ _ => rfl)) pe_int (fun _ _ => rfl)) pa_nil))))
      (pss_cons (ps_set (i := 2) sc_law_made_loop.nd rfl (Or.inl rfl) (pe_PK (K := K) rfl T.plc MP hr at_E0 (pa_cons (pe_SK (K := K) rfl T.toStTx M hr (pa_cons pe_int (pa_cons (pe_ix (ix_tupK (K := K) rfl) (pe_ix (ix_tupK (K := K) rfl) (pv 0) pe_int (fun _ _ => rfl)) pe_int (fun _ _ => rfl)) (pa_cons (pe_ix (ix_tupK (K := K) rfl) (pe_ix (ix_tupK (K := K) rfl) (pv 0) pe_int (fun _ _ => rfl)) pe_int (fun _ _ => rfl)) pa_nil)))) (pa_cons (pe_ix (ix_tupK (K := K) rfl) (pe_ix (ix_tupK (K := K) rfl) (pv 0) pe_int (fun _ _ => rfl)) pe_int (fun _ _ => rfl)) pa_nil))))
      (pss_one (ps_ret (pe_LpK (K := K) MLp rfl hr at_E0 (pa_cons (pv 1) (pa_cons (pv 2) (pa_cons (pe_lc (own := [("_law_one", 3)]) (g := gName 3) (tt := tYes) rfl sc_law_made_loop.nd (pi_tup (pe_ix (ix_tupK (K := K) rfl) (pv 0) pe_int (fun _ _ => rfl))) (blkOk_by (N := ["_law_row", "_law_low", "_law_high", "_law_one"]) (sc := defScope s_law_made_loop) (by decide +kernel)) (fun _ _ _ _ _ => (pg_name (i := 3) sc_law_made_loop.nd rfl (.inl rfl))) (fun _ _ _ _ _ => pts_nil) (fun _ _ _ _ _ => (pe_dn dMStm hr (pa_cons (pv 3) pa_nil)))) pa_nil))) (pk_cons (pe_ix (ix_tupK (K := K) rfl) (pv 0) pe_int (fun _ _ => rfl)) (pk_cons (pe_ix (ix_tupK (K := K) rfl) (pv 0) pe_int (fun _ _ => rfl)) pk_nil))))))), ?_⟩
    obtain ⟨t, q1, q2, ts, xs, rfl, ht, h1, h2, hts, ds⟩ := dt_lp hd
    obtain ⟨a0, a1, b0, b1, c0, c1, x0, x1, y0, y1, z0, z1, S0, S1, hS, n0, n3, okS⟩ := hok
    refine ⟨_, rfl, t, _, _, _, rfl, rfl, SqT.of ht, at0, q1, _, _, _, rfl, rfl, SqT.of h1, at0, _, rfl, t, _, _, _, rfl, rfl, SqT.of ht, at0, q1, _, _, _, rfl, rfl, SqT.of h1, at1, 0, m.l0, m.l1, rfl, fun r1 H1 s1 _ hr1 => ?_⟩
    refine ⟨_, rfl, t, _, _, _, rfl, rfl, SqT.of (s1 _ _ ht), at0, q1, _, _, _, rfl, rfl, SqT.of (s1 _ _ h1), at2, .ref r1, m.l2, rfl, 0, m.l0, m.l1, .inl ⟨r1, rfl, hr1⟩, (fun z => absurd z (by omega)), fun _ => ⟨?_, fun p1 H2 s2 hp1 => ?_⟩⟩
    · have := gg_le (a := 0) (b := m.l0) (d := m.l2) (by omega)
      omega
    refine normG (σ' := [some (.ref t), some (.ref p1), none, none]) rfl ?_
    have s02 := s1.trans s2
    have ht2 := s02 _ _ ht
    have h22 := s02 _ _ h2
    refine ⟨_, rfl, t, _, _, _, rfl, rfl, SqT.of ht2, at1, q2, _, _, _, rfl, rfl, SqT.of h22, at0, _, rfl, t, _, _, _, rfl, rfl, SqT.of ht2, at1, q2, _, _, _, rfl, rfl, SqT.of h22, at1, 0, m.h0, m.h1, rfl, fun r2 H3 s3 _ hr2 => ?_⟩
    refine ⟨_, rfl, t, _, _, _, rfl, rfl, SqT.of (s3 _ _ ht2), at1, q2, _, _, _, rfl, rfl, SqT.of (s3 _ _ h22), at2, .ref r2, m.h2, rfl, 0, m.h0, m.h1, .inl ⟨r2, rfl, hr2⟩, (fun z => absurd z (by omega)), fun _ => ⟨?_, fun p2 H4 s4 hp2 => ?_⟩⟩
    · have := gg_le (a := 0) (b := m.h0) (d := m.h2) (by omega)
      omega
    refine normG (σ' := [some (.ref t), some (.ref p1), some (.ref p2), none]) rfl ?_
    have s04 := s02.trans (s3.trans s4)
    have ht4 := s04 _ _ ht
    have hts4 := s04 _ _ hts
    refine ⟨_, rfl, _, rfl, _, rfl, t, _, _, _, rfl, rfl, SqT.of ht4, at4, ts, rfl, ⟨_, SqT.of hts4⟩, fun D hD => ?_⟩
    refine lc_tup (K := K) (xs := xs) (fun i Hc => ∃ ws, Hc D = some (.lst ws) ∧ Fa (StOb K Hc) ws (m.sts.take i) ∧ Same H4 Hc) ⟨[], upd_same, .nil, Same.new _ (Same.refl H4) hD⟩ (fun i Hc _ z => SqT.of (z.choose_spec.2.2 _ _ hts4)) ?_ ?_
    · rintro i v Hc hv ⟨ws, eD, fg, sc⟩
      obtain ⟨g, eg, dv⟩ := (ds.to (.of (s04.trans sc))).map' hv
      refine ⟨rfl, yes_of ?_⟩
      refine ⟨_, rfl, v, g, rfl, dv, okS g (List.mem_of_getElem? eg), fun v' H' s' hv' => ?_⟩
      have eD3 := s' _ _ eD
      refine ⟨ws, eD3, sz1l _ ?_, ws ++ [v'], upd_same, ?_, fun b o e => ?_⟩
      · rw [fg.1, List.length_take]
        omega
      · rw [List.take_add_one, eg]
        have msU : MS H' (upd H' D (.lst (ws ++ [v']))) := .updL eD3
        exact (fg.imp fun _ _ z => (z.same s').ms msU).snoc (hv'.ms msU)
      · rw [upd_ne (ne_of_none e hD)]
        exact s' _ _ (sc b o e)
    rintro H5 ⟨ws, eD, fg, s5⟩
    have lxs : xs.length = m.sts.length := by rw [ds.len, List.length_map]
    rw [lxs, List.take_length] at fg
    have ht5 := s5 _ _ ht4
    refine ⟨_, rfl, t, _, _, _, rfl, rfl, SqT.of ht5, at2, _, rfl, t, _, _, _, rfl, rfl, SqT.of ht5, at3, rfl, rfl, ?_⟩
    have f1 := rg_least (a := m.l0) (c := m.l1) (d := m.l2) a0 (by omega) (by omega) (by omega) c0 (by omega)
    have f2 := rg_least (a := m.h0) (c := m.h1) (d := m.h2) x0 (by omega) (by omega) (by omega) z0 z1
    have s25 := s3.trans (s4.trans s5)
    refine ⟨.ref p1, .ref p2, D, ws, lf4 m.l0 m.l1 m.l2, lf4 m.h0 m.h1 m.h2, m.S, m.dn, rfl, .inl ⟨p1, rfl, hp1.same s25⟩, .inl ⟨p2, rfl, hp2.same s5⟩, .inl (SqL.of eD), Out.ok ?_ fun p6 H6 s6 h6 => ?_⟩
    · unfold ckLp ckLoop ckM
      rw [fg.1, if_pos (by omega), ckn_ok (by omega) (by omega), rg_ck f1, rg_ck f2, if_neg ?_]
      · rfl
      rintro ⟨q1, q2⟩
      have e := hS q1
      have q3 : 1 < m.l2.fdiv (gg 0 m.l0 m.l2) := q2
      have := (dv_bd (a := 0) (b := m.l0) (d := m.l2) (by omega)).2
      omega
    · exact k _ _ (s04.trans (s5.trans s6)) ⟨p6, _, _, ws, rfl, h6, f1, f2, fg.imp fun _ _ z => z.same s6⟩
end
section
variable {K : PySem.W.Frag} {H : Hp}
theorem rdNs_of {rs : List V} {ms : List RdM} (h : Fa (RdOb K H) rs ms) : RdNs K H rs (ms.map (·.x)) := by
  refine ⟨by rw [List.length_map, h.1], fun i v y a b => ?_⟩
  rw [List.getElem?_map] at b
  obtain ⟨m, hm, rfl⟩ := Option.map_eq_some_iff.mp b
  obtain ⟨p, x1, x2, x3, x4, e, ⟨dx, q, h1, _⟩, _⟩ := h.2 i v m a hm
  exact ⟨p, dx, _, e, h1, rdf_a _ _ _⟩
theorem stNs_of {xs : List V} {ms : List StM} (h : Fa (StOb K H) xs ms) : StNs K H xs (ms.map fun m => m.x :: m.rds.map (·.x)) := by
  refine ⟨by rw [List.length_map, h.1], fun i v y a b => ?_⟩
  rw [List.getElem?_map] at b
  obtain ⟨m, hm, rfl⟩ := Option.map_eq_some_iff.mp b
  obtain ⟨p, rs, cs, e, ⟨dx, q, r, g, h1, _, h3, _⟩, h5, _⟩ := h.2 i v m a hm
  exact ⟨p, dx, _, m.x, r, rs, _, e, h1, stf_a _ _ _ _ _, stf_r _ _ _ _ _, h3, rdNs_of h5, rfl⟩
theorem lpNs_of {xs : List V} {ls : List LpM} (h : Fa (LpOb K H) xs ls) : LpNs K H xs (ls.map fun l => (l.sts.map fun m => m.x :: m.rds.map (·.x)).flatten) := by
  refine ⟨by rw [List.length_map, h.1], fun i v y a b => ?_⟩
  rw [List.getElem?_map] at b
  obtain ⟨m, hm, rfl⟩ := Option.map_eq_some_iff.mp b
  obtain ⟨p, t, u, ws, e, ⟨dx, lo, hi, st, h1, _, _, h4⟩, _, _, h7⟩ := h.2 i v m a hm
  exact ⟨p, dx, _, st, ws, _, e, h1, lp_tt _ _ _ _ _, h4, stNs_of h7, rfl⟩
end
theorem flat_bound {α β : Type} {f : α → List β} {n : Nat} : ∀ {l : List α}, (∀ a ∈ l, (f a).length ≤ n) → (l.map f).flatten.length ≤ l.length * n
  | [], _ => by simp
  | a :: l, h => by
    rw [List.map_cons, List.flatten_cons, List.length_append, List.length_cons]
    have h1 := h a (List.mem_cons_self ..)
    have h2 := flat_bound (l := l) fun b hb => h b (List.mem_cons_of_mem _ hb)
    rw [Nat.add_mul]
    omega
section
variable {P : Program} {w : World} {K : PySem.W.Frag} {mg : Str → Option Value} {base : Heap}
theorem sc_law_made : FnScope ["_law_rows", "_law_row"] ["_law_rows"] (defScope s_law_made) := ⟨rfl, rfl, rfl, by decide +kernel, rfl, by decide +kernel, by decide +kernel⟩
theorem ok_made {f : Addr} {fd : FuncData} (F : FnP K "_law_made" s_law_made f fd) (T : LwTx K mg) (MPr : MkPr P w K mg base) (dMLoop : Dn P w K mg base 10 "_law_made_loop" ["_law_row"] (spMLoop K)) : FnOk P w K mg base CX0 11 f fd ["_law_rows"] (spMade K) := by
  refine F.ok sc_law_made (fun vs H Q E h => ?_) (fun cdv A outer s H vs Q E hr h => ?_)
  · obtain ⟨r, xs, ls, rfl, _⟩ := h
    rfl
  · obtain ⟨r, xs, ls, rfl, hr0, ds, l3, ok, k⟩ := h
    refine ⟨_, PSs.nox (pss_one (ps_ret (pe_PrP (K := K) MPr rfl hr at_E0 (pa_cons (pe_lc (own := [("_law_row", 1)]) (g := gName 1) (tt := tYes) rfl sc_law_made.nd (pi_list (pv 0)) (blkOk_by (N := ["_law_rows", "_law_row"]) (sc := defScope s_law_made) (by decide +kernel)) (fun _ _ _ _ _ => (pg_name (i := 1) sc_law_made.nd rfl (.inl rfl))) (fun _ _ _ _ _ => pts_nil) (fun _ _ _ _ _ => (pe_dn dMLoop hr (pa_cons (pv 1) pa_nil)))) pa_nil)))), ?_⟩
    refine ⟨_, rfl, r, rfl, ⟨_, SqL.of hr0⟩, fun D hD => ?_⟩
    refine lc_list (K := K) (xs := xs) (fun i Hc => ∃ ws, Hc D = some (.lst ws) ∧ Fa (LpOb K Hc) ws (ls.take i) ∧ Same H Hc) ⟨[], upd_same, .nil, Same.new _ (Same.refl H) hD⟩ (fun i Hc _ z => SqL.of (z.choose_spec.2.2 _ _ hr0)) ?_ ?_
    · rintro i v Hc hv ⟨ws, eD, fg, sc⟩
      obtain ⟨g, eg, dv⟩ := (ds.to (.of sc)).map' hv
      refine ⟨rfl, yes_of ?_⟩
      refine ⟨_, rfl, v, g, rfl, dv, ok g (List.mem_of_getElem? eg), fun v' H' s' hv' => ?_⟩
      have eD3 := s' _ _ eD
      refine ⟨ws, eD3, sz1l _ ?_, ws ++ [v'], upd_same, ?_, fun b o e => ?_⟩
      · rw [fg.1, List.length_take]
        omega
      · rw [List.take_add_one, eg]
        have msU : MS H' (upd H' D (.lst (ws ++ [v']))) := .updL eD3
        exact (fg.imp fun _ _ z => (z.same s').ms msU).snoc (hv'.ms msU)
      · rw [upd_ne (ne_of_none e hD)]
        exact s' _ _ (sc b o e)
    rintro H5 ⟨ws, eD, fg, s5⟩
    have lxs : xs.length = ls.length := by rw [ds.len, List.length_map]
    rw [lxs, List.take_length] at fg
    refine ⟨D, ws, _, rfl, .inl (SqL.of eD), lpNs_of fg, ?_, Out.ok ?_ fun p ys H6 s6 h6 nd mem srt => ?_⟩
    · refine Nat.le_trans (flat_bound (n := 12) fun l hl => ?_) (by omega)
      obtain ⟨_, _, _, _, _, _, _, _, _, _, _, _, _, _, _, _, n3, okS⟩ := ok l hl
      refine Nat.le_trans (flat_bound (n := 4) fun m hm => ?_) (by omega)
      obtain ⟨_, _, _, _, lr, _⟩ := okS m hm
      rw [List.length_cons, List.length_map]
      omega
    · unfold ckM
      rw [fg.1, if_pos (by omega)]
    · exact k _ _ (s5.trans s6) ⟨p, ws, ys, rfl, h6, fg.imp fun _ _ z => z.same s6, nd, mem, srt⟩
end
end K28
set_option maxHeartbeats 4000000
namespace K28
open PySem PySem.Spec PyProof.Rows L2 Z
def tFCallK (K : PySem.W.Frag) (C2 : Addr) (m : Str) (sp : Sp) (E : XK) (ta : TE) (t : TA) : TE := fun σ H Q => ta σ H fun x H1 => ∃ a C dx fs q, x = .ref a ∧ H1 a = some (.ins C dx fs) ∧ Cls K C ∧ NoAttr K C m ∧ fs.lookup m = some (.ref q) ∧ t σ H1 fun vs H2 => (∃ dx fs, H2 q = some (.ins C2 dx fs)) ∧ sp (.ref q :: vs) H2 Q E
theorem pe_fcallK {X : Cx} {K : PySem.W.Frag} {CX : CXT} {k : Nat} {g C2 : Addr} {sp : Sp} {E : XK} {o e : Expr} {es : List Expr} {m : Str} {apos pos : Pos} {ta : TE} {t : TA} {pl : Sem Bool} (hK : X.K = K) (he : PE X o ta) (c : StX.CallO K C2 g) (F : FnR X.prog X.w K X.mg X.base CX k g sp) (hr : Room k X.A) (hx : Passes CX X E) (ha : PA X (e :: es) t)
    (ht : eval (.Call (.Attribute o m apos) (e :: es) [] pos) X.env = (do
      let ov ← eval o X.env
      standAt apos.atName
      let (f, first) ← holding [ov] (getMethod ov m pl)
      callWith pos f first (backTo pos (starEach (e :: es) X.env)) (backToKw pos (keywordEach [] X.env))) := by rfl)
    (hst : starEach (e :: es) X.env = (false, eval e X.env) :: starEach es X.env := by rfl) (hpl : (backTo pos (starEach es X.env)).any (·.1) = false := by rfl) :
    PE X (.Call (.Attribute o m apos) (e :: es) [] pos) (tFCallK K C2 m sp E ta t) := by
  subst hK
  exact pe_fcall he c F hr hx ha ht hst hpl
def tEither (t1 t2 : TE) : TE := fun σ H Q => t1 σ H Q ∨ t2 σ H Q
theorem pe_either {X : Cx} {e : Expr} {t1 t2 : TE} (h1 : PE X e t1) (h2 : PE X e t2) : PE X e (tEither t1 t2) := ⟨fun pins s σ H Q I h => h.elim (h1.run pins s σ H Q I) (h2.run pins s σ H Q I)⟩
def pv_ (a c d n : Int) : Int := (a * n + c).fdiv d
/-- how many turns from the least counter on -/
def mt_ (l h S : Int) : Int := if -((l - h).fdiv S) > 0 then -((l - h).fdiv S) else 0
/-- the least counter -/
def lc_ (l S : Int) : Int := if 0 ≤ l then l else l.fmod S
def lpL (l : LpM) (n : Int) : Int := lc_ (pv_ l.l0 l.l1 l.l2 n) l.S
def lpN (l : LpM) (n : Int) : Int := mt_ (lpL l n) (pv_ l.h0 l.h1 l.h2 n) l.S
def gdV (g : Gd) (i n : Int) : Bool := match g with
  | .lea a b c => decide (0 ≤ a * i + b * n + c)
  | .rst a b c m r => decide ((a * i + b * n + c).fmod m = r)
def stDone (s : StM) (i n : Int) : Bool := s.gds.all fun g => gdV g i n
theorem sm_of {x : Int} (h1 : -999 ≤ x) (h2 : x ≤ 999) : Sm x := by unfold Sm; omega
section
variable (K : PySem.W.Frag)
def spSCall : Sp := fun vs H Q _ => ∃ (p : Addr) (a b c i n : Int), vs = [.ref p, .int i, .int n] ∧ StrAt K H p a b c ∧ Sm a ∧ Sm b ∧ Q (.int (a * i + b * n + c)) H
def spAH : Sp := fun vs H Q _ => ∃ (p : Addr) (a b c i n : Int), vs = [.ref p, .int i, .int n] ∧ AtlAt K H p a b c ∧ Sm a ∧ Sm b ∧ Q (.bl (decide (0 ≤ a * i + b * n + c))) H
def spRH : Sp := fun vs H Q _ => ∃ (p : Addr) (a b m r i n : Int), vs = [.ref p, .int i, .int n] ∧ RstAt K H p a b m r ∧ Sm a ∧ Sm b ∧ m ≠ 0 ∧ Q (.bl (decide ((a * i + b * n + 0).fmod m = r))) H
def spDone : Sp := fun vs H Q _ => ∃ (v : V) (s : StM) (i n : Int), vs = [v, .int i, .int n] ∧ StOb K H v s ∧ StOk s ∧ ∀ H', Same H H' → Q (.bl (stDone s i n)) H'
def spTurns : Sp := fun vs H Q _ => ∃ (v : V) (l : LpM) (f n : Int), vs = [v, .int f, .int n] ∧ LpOb K H v l ∧ LpOk l ∧ Q (.int (mt_ f (pv_ l.h0 l.h1 l.h2 n) l.S)) H
def spLC : Sp := fun vs H Q _ => ∃ (v : V) (l : LpM) (n : Int), vs = [v, .int n] ∧ LpOb K H v l ∧ LpOk l ∧ Q (.int (lpL l n)) H
def spMT : Sp := fun vs H Q _ => ∃ (v : V) (l : LpM) (n : Int), vs = [v, .int n] ∧ LpOb K H v l ∧ LpOk l ∧ Q (.int (lpN l n)) H
def spCO : Sp := fun vs H Q _ => ∃ (v : V) (l : LpM) (n k : Int), vs = [v, .int n, .int k] ∧ LpOb K H v l ∧ LpOk l ∧ 0 ≤ k ∧ k ≤ lpN l n - 1 ∧ Q (.int (lpL l n + (if l.dn = true then lpN l n - 1 - k else k) * l.S)) H
end
/-- a place may be called, a sum may be called -/
structure PC (P : Program) (w : World) (K : PySem.W.Frag) (mg : Str → Option Value) (base : Heap) : Prop where
  call : ∃ fd, FnOk P w K mg base CX0 2 (He.ma K (CP K) "__call__") fd ["self", "i", "n"] (spPCall K) ∧ Binds K fd ["self", "i", "n"] [] ∧ StX.CallO K (CP K) (He.ma K (CP K) "__call__")
  calS : ∃ fd, FnOk P w K mg base CX0 2 (He.ma K (CS K) "__call__") fd ["self", "i", "n"] (spSCall K) ∧ Binds K fd ["self", "i", "n"] [] ∧ StX.CallO K (CS K) (He.ma K (CS K) "__call__")
theorem lp_no (lo hi st : Addr) (S : Int) (dn : Bool) {m : Str} (h1 : ¬ m = "low") (h2 : ¬ m = "high") (h3 : ¬ m = "statements") (h4 : ¬ m = "step") (h5 : ¬ m = "down") : (lpf lo hi st S dn).lookup m = none := by
  unfold lpf
  rw [lookup_putF, if_neg h5, lookup_putF, if_neg h4, lookup_putF, if_neg h3, lookup_putF, if_neg h2, lookup_putF, if_neg h1]
  rfl
theorem no_lc (lo hi st : Addr) (S : Int) (dn : Bool) : (lpf lo hi st S dn).lookup ("least_counter" : Str) = none := lp_no _ _ _ _ _ (by decide +kernel) (by decide +kernel) (by decide +kernel) (by decide +kernel) (by decide +kernel)
theorem no_mt (lo hi st : Addr) (S : Int) (dn : Bool) : (lpf lo hi st S dn).lookup ("many_turns" : Str) = none := lp_no _ _ _ _ _ (by decide +kernel) (by decide +kernel) (by decide +kernel) (by decide +kernel) (by decide +kernel)
theorem no_co (lo hi st : Addr) (S : Int) (dn : Bool) : (lpf lo hi st S dn).lookup ("counter_of" : Str) = none := lp_no _ _ _ _ _ (by decide +kernel) (by decide +kernel) (by decide +kernel) (by decide +kernel) (by decide +kernel)
section
variable {P : Program} {w : World} {K : PySem.W.Frag} {mg : Str → Option Value} {base : Heap}
theorem scStraight__call__ : FnScope ["self", "i", "n"] ["self", "i", "n"] (defScope iStraight__call__) := ⟨rfl, rfl, rfl, by decide +kernel, rfl, by decide +kernel, by decide +kernel⟩
theorem ok_SCall {fd : FuncData} (F : FnM K "Straight" "__call__" "Straight.__call__" iStraight__call__ fd) (dVal : Dn P w K mg base 1 "value_of" ["straight", "i", "n"] (spVal K)) : FnOk P w K mg base CX0 2 (He.ma K (CS K) "__call__") fd ["self", "i", "n"] (spSCall K) := by
  refine F.ok scStraight__call__ (fun vs H Q E h => ?_) (fun cdv A outer s H vs Q E hr h => ?_)
  · obtain ⟨p, a, b, c, i, n, rfl, _⟩ := h
    rfl
  · obtain ⟨p, a, b, c, i, n, rfl, hp, sa, sb, k⟩ := h
    refine ⟨_, PSs.nox (pss_one (ps_ret (pe_dn dVal hr (pa_cons (pv 0) (pa_cons (pv 1) (pa_cons (pv 2) pa_nil)))))), ?_⟩
    exact ⟨_, rfl, _, rfl, _, rfl, p, a, b, c, i, n, rfl, hp, sa, sb, k⟩
theorem scAtLeastholds : FnScope ["self", "i", "n"] ["self", "i", "n"] (defScope iAtLeastholds) := ⟨rfl, rfl, rfl, by decide +kernel, rfl, by decide +kernel, by decide +kernel⟩
theorem ok_AHolds {fd : FuncData} (F : FnM K "AtLeast" "holds" "AtLeast.holds" iAtLeastholds fd) (T : PrTx K mg) (dVal : Dn P w K mg base 1 "value_of" ["straight", "i", "n"] (spVal K)) : FnOk P w K mg base CX0 2 (He.ma K (CA K) "holds") fd ["self", "i", "n"] (spAH K) := by
  refine F.ok scAtLeastholds (fun vs H Q E h => ?_) (fun cdv A outer s H vs Q E hr h => ?_)
  · obtain ⟨p, a, b, c, i, n, rfl, _⟩ := h
    rfl
  · obtain ⟨p, a, b, c, i, n, rfl, ⟨dx, q, hp, hq⟩, ba, bb, k⟩ := h
    refine ⟨_, PSs.nox (pss_one (ps_ret (pe_cmpR op_ge (pe_dn dVal hr (pa_cons (pe_fld (pv 0) rfl) (pa_cons (pv 1) (pa_cons (pv 2) pa_nil)))) pe_int (nomark _)))), ?_⟩
    exact ⟨_, rfl, p, _, dx, _, _, rfl, hp, T.clA, T.nAS, af_s _, _, rfl, _, rfl, q, a, b, c, i, n, rfl, hq, ba, bb, _, _, rfl, rfl, k⟩
theorem scRestholds : FnScope ["self", "i", "n"] ["self", "i", "n"] (defScope iRestholds) := ⟨rfl, rfl, rfl, by decide +kernel, rfl, by decide +kernel, by decide +kernel⟩
theorem ok_RHolds {fd : FuncData} (F : FnM K "Rest" "holds" "Rest.holds" iRestholds fd) (T : PrTx K mg) (dVal : Dn P w K mg base 1 "value_of" ["straight", "i", "n"] (spVal K)) : FnOk P w K mg base CX0 2 (He.ma K (CR K) "holds") fd ["self", "i", "n"] (spRH K) := by
  refine F.ok scRestholds (fun vs H Q E h => ?_) (fun cdv A outer s H vs Q E hr h => ?_)
  · obtain ⟨p, a, b, m, r, i, n, rfl, _⟩ := h
    rfl
  · obtain ⟨p, a, b, m, r, i, n, rfl, ⟨dx, q, hp, hq⟩, ba, bb, m0, k⟩ := h
    refine ⟨_, PSs.nox (pss_one (ps_ret (pe_cmpR op_eq (pe_op op_modN (pe_dn dVal hr (pa_cons (pe_fld (pv 0) rfl) (pa_cons (pv 1) (pa_cons (pv 2) pa_nil)))) (pe_fld (pv 0) rfl)) (pe_fld (pv 0) rfl) (nomark _)))), ?_⟩
    refine ⟨_, rfl, p, _, dx, _, _, rfl, hp, T.clQ, T.nRS, rf_s _ _ _, _, rfl, _, rfl, q, a, b, 0, i, n, rfl, hq, ba, bb, ?_⟩
    refine ⟨_, rfl, p, _, dx, _, _, rfl, hp, T.clQ, T.nRM, rf_m _ _ _, _, _, rfl, rfl, m0, _, rfl, p, _, dx, _, _, rfl, hp, T.clQ, T.nRR, rf_r _ _ _, rfl, ?_⟩
    have e : decide (V.int ((a * i + b * n + 0).fmod m) = V.int r) = decide ((a * i + b * n + 0).fmod m = r) := decide_eq_decide.mpr ⟨V.int.inj, congrArg V.int⟩
    rw [← e] at k
    exact k
theorem sc_turns_from : FnScope ["loop", "least", "n"] ["loop", "least", "n"] (defScope s_turns_from) := ⟨rfl, rfl, rfl, by decide +kernel, rfl, by decide +kernel, by decide +kernel⟩
theorem ok_turns {f : Addr} {fd : FuncData} (F : FnP K "turns_from" s_turns_from f fd) (T : LwTx K mg) (C : PC P w K mg base) : FnOk P w K mg base CX0 3 f fd ["loop", "least", "n"] (spTurns K) := by
  refine F.ok sc_turns_from (fun vs H Q E h => ?_) (fun cdv A outer s H vs Q E hr h => ?_)
  · obtain ⟨v, l, f, n, rfl, _⟩ := h
    rfl
  · obtain ⟨v, l, f, n, rfl, ⟨p, t, u, xs, rfl, ⟨dx, lo, hi, st, hp, hlo, hhi, hst⟩, f1, f2, _⟩, ok, k⟩ := h
    obtain ⟨fdc, Fc, hbc, cc⟩ := C.call
    refine ⟨_, PSs.nox (pss_one (ps_ret (pe_callB (call_max2 rfl) (by rfl) T.max (by decide +kernel) (pa_cons pe_int (pa_cons (pe_un un_neg (pe_op op_fdivN (pe_op op_sub (pv 1) (pe_fcallK (K := K) rfl (pv 0) cc (FnOk.raw Fc hbc .nil) (hr.mono (by decide)) pass0 (pa_cons pe_int (pa_cons (pv 2) pa_nil)))) (pe_fld (pv 0) rfl))) pa_nil))))), ?_⟩
    obtain ⟨dh, qh, hh, _⟩ := id hhi
    obtain ⟨u0, u1, u2, u3, u4, u5, u6, ue⟩ := f2
    obtain ⟨_, _, _, _, _, _, _, _, _, _, _, _, S0, S1, _⟩ := ok
    refine ⟨_, rfl, _, rfl, p, _, dx, _, hi, rfl, hp, T.clL, T.nHi, lp_hi _ _ _ _ _, _, rfl, ⟨_, _, hh⟩, hi, _, _, _, _, 0, n, rfl, hhi, sm_of (by omega) (by omega), sm_of (by omega) (by omega), by omega, by omega, ?_⟩
    refine ⟨_, _, rfl, rfl, _, rfl, p, _, dx, _, _, rfl, hp, T.clL, T.nSp, lp_st _ _ _ _ _, _, _, rfl, rfl, ⟨by omega, by omega⟩, _, rfl, ?_⟩
    refine ⟨_, _, rfl, ?_⟩
    unfold mt_ pv_ at k
    have e : u.1 * 0 + u.2.1 * n + u.2.2.1 = u.2.1 * n + u.2.2.1 := by omega
    rw [e, ue]
    exact k
theorem scLoopleast_counter : FnScope ["self", "n", "low"] ["self", "n"] (defScope iLoopleast_counter) := ⟨rfl, rfl, rfl, by decide +kernel, rfl, by decide +kernel, by decide +kernel⟩
theorem ok_LC {fd : FuncData} (F : FnM K "Loop" "least_counter" "Loop.least_counter" iLoopleast_counter fd) (T : LwTx K mg) (C : PC P w K mg base) : FnOk P w K mg base CX0 3 (He.ma K (CL K) "least_counter") fd ["self", "n"] (spLC K) := by
  refine F.ok scLoopleast_counter (fun vs H Q E h => ?_) (fun cdv A outer s H vs Q E hr h => ?_)
  · obtain ⟨v, l, n, rfl, _⟩ := h
    rfl
  · obtain ⟨v, l, n, rfl, ⟨p, t, u, xs, rfl, ⟨dx, lo, hi, st, hp, hlo, hhi, hst⟩, f1, f2, _⟩, ok, k⟩ := h
    obtain ⟨fdc, Fc, hbc, cc⟩ := C.call
    refine ⟨_, PSs.nox (pss_cons (ps_set (i := 2) scLoopleast_counter.nd rfl (Or.inl rfl) (pe_fcallK (K := K) rfl (pv 0) cc (FnOk.raw Fc hbc .nil) (hr.mono (by decide)) pass0 (pa_cons pe_int (pa_cons (pv 1) pa_nil))))
      (pss_one (ps_ret (pe_ifExp (pt_cmpR op_ge (pv 2) pe_int (nomark _)) (pv 2) (pe_op op_modN (pv 2) (pe_fld (pv 0) rfl)))))), ?_⟩
    obtain ⟨dh, qh, hh, _⟩ := id hlo
    obtain ⟨u0, u1, u2, u3, u4, u5, u6, ue⟩ := f1
    obtain ⟨_, _, _, _, _, _, _, _, _, _, _, _, S0, S1, _⟩ := ok
    refine ⟨_, rfl, p, _, dx, _, lo, rfl, hp, T.clL, T.nLo, lp_lo _ _ _ _ _, _, rfl, ⟨_, _, hh⟩, lo, _, _, _, _, 0, n, rfl, hlo, sm_of (by omega) (by omega), sm_of (by omega) (by omega), by omega, by omega, ?_⟩
    have e : t.1 * 0 + t.2.1 * n + t.2.2.1 = t.2.1 * n + t.2.2.1 := by omega
    rw [e, ue]
    unfold lpL lc_ pv_ at k
    refine ⟨_, rfl, _, _, rfl, rfl, _, rfl, ite2 (fun h => ?_) (fun h => ?_)⟩
    · rw [if_pos (of_decide_eq_true h)] at k
      exact ⟨_, rfl, k⟩
    · rw [if_neg (fun z => h (decide_eq_true z))] at k
      exact ⟨_, rfl, _, rfl, p, _, dx, _, _, rfl, hp, T.clL, T.nSp, lp_st _ _ _ _ _, _, _, rfl, rfl, by omega, k⟩
end
end K28
set_option maxHeartbeats 4000000
namespace K28
open PySem PySem.Spec PyProof.Rows L2 Z
/-- the counters of the turns, in order -/
def due (l S : Int) (m : Nat) (dn : Bool) : List Int := (List.range m).map fun (j : Nat) => l + (if dn = true then (m : Int) - 1 - (j : Int) else (j : Int)) * S
theorem pv_bd {a c d n : Int} (h1 : 0 ≤ a) (h2 : a ≤ 3) (h3 : -20 ≤ c) (h4 : c ≤ 20) (h5 : 1 ≤ d) (n0 : 0 ≤ n) (n8 : n ≤ 8) : -50 ≤ pv_ a c d n ∧ pv_ a c d n ≤ 50 := by
  have e : 0 ≤ a * n ∧ a * n ≤ 24 := by
    have h7 : a = 0 ∨ a = 1 ∨ a = 2 ∨ a = 3 := by omega
    rcases h7 with z | z | z | z <;> subst z <;> omega
  exact fdiv_bd (by omega) (by decide) (by omega) (by omega)
/-- the walk of the row is that of the least counter on -/
theorem walk_due {lo hi S : Int} (hS : 1 ≤ S) : walk lo S (rn_ lo hi S).toNat = (List.range (mt_ (lc_ lo S) hi S).toNat).map fun (j : Nat) => lc_ lo S + (j : Int) * S := by
  unfold mt_
  rw [turns_eq hS]
  unfold lc_
  by_cases h : 0 ≤ lo
  · rw [if_pos h]
    have q := walk_eq (lo := lo) (c := S) (l := lo) (k := 0) hS h (by omega) (.inl rfl) (rn_ lo hi S).toNat
    rw [Nat.sub_zero] at q
    exact q
  · rw [if_neg h, fm (show 0 < S by omega)]
    have m0 := Int.emod_nonneg lo (show S ≠ 0 by omega)
    have m1 := Int.emod_lt_of_pos lo (show 0 < S by omega)
    have e := Int.emod_add_mul_ediv lo S
    have k0 : 0 ≤ -(lo / S) := by
      have : lo / S < 0 := Int.ediv_neg_of_neg_of_pos (by omega) (by omega)
      omega
    obtain ⟨k, hk⟩ : ∃ k : Nat, (k : Int) = -(lo / S) := ⟨(-(lo / S)).toNat, by omega⟩
    have e2 : lo % S = lo + (k : Int) * S := by
      rw [hk, Int.neg_mul, Int.mul_comm]
      omega
    have q := walk_eq (lo := lo) (c := S) (l := lo % S) (k := k) hS m0 e2 (.inr m1) (rn_ lo hi S).toNat
    rw [q]
    have cnt : (rn_ lo hi S).toNat - k = (rn_ (lo % S) hi S).toNat := by
      rw [rn_pos hS, rn_pos hS]
      by_cases c1 : lo < hi
      · rw [if_pos c1]
        have e3 : hi - lo - 1 = (hi - lo % S - 1) + (k : Int) * S := by omega
        rw [e3, Int.add_mul_ediv_right _ _ (by omega)]
        by_cases c2 : lo % S < hi
        · rw [if_pos c2]
          have := Int.ediv_nonneg (show 0 ≤ hi - lo % S - 1 by omega) (show 0 ≤ S by omega)
          omega
        · rw [if_neg c2]
          have : (hi - lo % S - 1) / S < 0 := Int.ediv_neg_of_neg_of_pos (by omega) (by omega)
          omega
      · rw [if_neg c1, if_neg (by omega)]
        exact Nat.zero_sub k
    rw [cnt]
theorem due_up (l S : Int) (m : Nat) : (List.range m).map (fun (j : Nat) => l + (j : Int) * S) = due l S m false := by
  unfold due
  simp
theorem due_dn (l S : Int) (m : Nat) : ((List.range m).map (fun (j : Nat) => l + (j : Int) * S)).reverse = due l S m true := by
  unfold due
  apply List.ext_getElem
  · simp
  · intro i h1 h2
    simp only [List.length_reverse, List.length_map, List.length_range] at h1
    simp [List.getElem_reverse]
    have e : ((m - 1 - i : Nat) : Int) = (m : Int) - 1 - (i : Int) := by omega
    rw [e]
/-- the counters of a loop's turns, in order -/
def lpCs (l : LpM) (n : Int) : List Int := due (lpL l n) l.S (lpN l n).toNat l.dn
def spCounters : Sp := fun vs H Q _ => ∃ (v : V) (l : LpM) (n : Int), vs = [v, .int n] ∧ DT H v (lpD l) ∧ LpOk l ∧ 0 ≤ n ∧ n ≤ 8 ∧ ∀ D H', Same H H' → H D = none → H' D = some (.lst ((lpCs l n).map V.int)) → Q (.ref D) H'
def spValue : Sp := fun vs H Q _ => ∃ (t : Addr) (a b c i n : Int) (rest : List V), vs = [.ref t, .int i, .int n] ∧ H t = some (.tup (.int a :: .int b :: .int c :: rest)) ∧ Sm a ∧ Sm b ∧
  ((rest = [] ∧ Q (.int (a * i + b * n + c)) H) ∨ ∃ d : Int, rest = [.int d] ∧ 1 ≤ d ∧ d ≤ 3 ∧ Q (.int ((a * i + b * n + c).fdiv d)) H)
def spGuardH : Sp := fun vs H Q _ => ∃ (v : V) (g : Gd) (i n : Int), vs = [v, .int i, .int n] ∧ DT H v (gdD g) ∧ GdOk g ∧ Q (.bl (gdV g i n)) H
/-- bools found one by one -/
theorem all_take_succ {α : Type} {p : α → Bool} {l : List α} {i : Nat} {a : α} (h : l[i]? = some a) : (l.take (i + 1)).map p = (l.take i).map p ++ [p a] := by
  rw [List.take_add_one, h, List.map_append]
  rfl
theorem all_map {α : Type} {p : α → Bool} (l : List α) : (l.map p).all id = l.all p := by
  induction l with
  | nil => rfl
  | cons a l ih => simp
theorem ah_no (q : Addr) : (af q).lookup ("holds" : Str) = none := af_no q (by decide +kernel)
theorem rh_no (q : Addr) (m r : Int) : (rf q m r).lookup ("holds" : Str) = none := rf_no q m r (by decide +kernel) (by decide +kernel) (by decide +kernel)
theorem sm_fd {a b c : Int} (h : GdOk (.lea a b c)) : Sm (a.fdiv (g2 a b)) ∧ Sm (b.fdiv (g2 a b)) := by
  obtain ⟨h1, h2, h3, h4, h5, h6⟩ := h
  by_cases z : g2 a b = 0
  · obtain ⟨rfl, rfl⟩ := g2_zero z
    rw [Int.zero_fdiv]
    exact ⟨sm_of (by decide) (by decide), sm_of (by decide) (by decide)⟩
  · have g0 : (0 : Int) < (g2 a b : Int) := by omega
    have ga := fdiv_bd (x := a) (M := 12) g0 (by decide) (by omega) (by omega)
    have gb := fdiv_bd (x := b) (M := 12) g0 (by decide) (by omega) (by omega)
    exact ⟨sm_of (by omega) (by omega), sm_of (by omega) (by omega)⟩
theorem sm_fm {x m : Int} (h2 : 2 ≤ m) (h4 : m ≤ 4) : Sm (x.fmod m) := by
  have := fmod_small (x := x) h2 h4
  exact sm_of (by omega) (by omega)
/-- the conditions' methods -/
structure HC (P : Program) (w : World) (K : PySem.W.Frag) (mg : Str → Option Value) (base : Heap) : Prop where
  ah : ∃ fd, FnOk P w K mg base CX0 2 (He.ma K (CA K) "holds") fd ["self", "i", "n"] (spAH K) ∧ Binds K fd ["self", "i", "n"] [] ∧ Meth K (CA K) "holds" (He.ma K (CA K) "holds")
  rh : ∃ fd, FnOk P w K mg base CX0 2 (He.ma K (CR K) "holds") fd ["self", "i", "n"] (spRH K) ∧ Binds K fd ["self", "i", "n"] [] ∧ Meth K (CR K) "holds" (He.ma K (CR K) "holds")
def LM1 (P : Program) (w : World) (K : PySem.W.Frag) (mg : Str → Option Value) (base : Heap) : Prop := ∃ fd, FnOk P w K mg base CX0 3 (He.ma K (CL K) "least_counter") fd ["self", "n"] (spLC K) ∧ Binds K fd ["self", "n"] [] ∧ Meth K (CL K) "least_counter" (He.ma K (CL K) "least_counter")
theorem LpOb.ref {K : PySem.W.Frag} {H : Hp} {v : V} {l : LpM} (h : LpOb K H v l) : ∃ p dx lo hi st, v = .ref p ∧ H p = some (.ins (CL K) dx (lpf lo hi st l.S l.dn)) := by
  obtain ⟨p, t, u, xs, e, ⟨dx, lo, hi, st, h1, _⟩, _⟩ := h
  exact ⟨p, dx, lo, hi, st, e, h1⟩
section
variable {P : Program} {w : World} {K : PySem.W.Frag} {mg : Str → Option Value} {base : Heap}
theorem scLoopmany_turns : FnScope ["self", "n"] ["self", "n"] (defScope iLoopmany_turns) := ⟨rfl, rfl, rfl, by decide +kernel, rfl, by decide +kernel, by decide +kernel⟩
theorem ok_MT {fd : FuncData} (F : FnM K "Loop" "many_turns" "Loop.many_turns" iLoopmany_turns fd) (T : LwTx K mg) (L : LM1 P w K mg base) (dTurns : Dn P w K mg base 3 "turns_from" ["loop", "least", "n"] (spTurns K)) : FnOk P w K mg base CX0 4 (He.ma K (CL K) "many_turns") fd ["self", "n"] (spMT K) := by
  refine F.ok scLoopmany_turns (fun vs H Q E h => ?_) (fun cdv A outer s H vs Q E hr h => ?_)
  · obtain ⟨v, l, n, rfl, _⟩ := h
    rfl
  · obtain ⟨v, l, n, rfl, hL, ok, k⟩ := h
    obtain ⟨fdl, Fl, hbl, cl⟩ := L
    refine ⟨_, PSs.nox (pss_one (ps_ret (pe_dn dTurns hr (pa_cons (pv 0) (pa_cons (pe_meth (pv 0) T.clL cl Fl (hr.mono (by decide)) hbl .nil pass0 (pa_cons (pv 1) pa_nil)) (pa_cons (pv 1) pa_nil)))))), ?_⟩
    obtain ⟨p, dx, lo, hi, st, rfl, hp⟩ := hL.ref
    exact ⟨_, rfl, _, rfl, p, dx, _, rfl, hp, no_lc _ _ _ _ _, _, rfl, _, l, n, rfl, hL, ok, _, rfl, _, l, _, n, rfl, hL, ok, k⟩
theorem scLoopcounter_of : FnScope ["self", "n", "turn", "least", "many", "place"] ["self", "n", "turn"] (defScope iLoopcounter_of) := ⟨rfl, rfl, rfl, by decide +kernel, rfl, by decide +kernel, by decide +kernel⟩
theorem ok_CO {fd : FuncData} (F : FnM K "Loop" "counter_of" "Loop.counter_of" iLoopcounter_of fd) (T : LwTx K mg) (L : LM1 P w K mg base) (dTurns : Dn P w K mg base 3 "turns_from" ["loop", "least", "n"] (spTurns K))
    (dIsIntFrom : Dn P w K mg base 2 "is_integer_from" ["value", "low", "high"] spIntFrom) : FnOk P w K mg base CX0 4 (He.ma K (CL K) "counter_of") fd ["self", "n", "turn"] (spCO K) := by
  refine F.ok scLoopcounter_of (fun vs H Q E h => ?_) (fun cdv A outer s H vs Q E hr h => ?_)
  · obtain ⟨v, l, n, k, rfl, _⟩ := h
    rfl
  · obtain ⟨v, l, n, k, rfl, hL, ok, k0, k1, kk⟩ := h
    obtain ⟨fdl, Fl, hbl, cl⟩ := L
    refine ⟨_, PSs.nox (pss_cons (ps_set (i := 3) scLoopcounter_of.nd rfl (Or.inl rfl) (pe_meth (pv 0) T.clL cl Fl (hr.mono (by decide)) hbl .nil pass0 (pa_cons (pv 1) pa_nil)))
      (pss_cons (ps_set (i := 4) scLoopcounter_of.nd rfl (Or.inl rfl) (pe_dn dTurns hr (pa_cons (pv 0) (pa_cons (pv 3) (pa_cons (pv 1) pa_nil)))))
      (pss_cons (ps_if (pt_not (pt_val (pe_dn dIsIntFrom hr (pa_cons (pv 2) (pa_cons pe_int (pa_cons (pe_op op_sub (pv 4) pe_int) pa_nil)))))) (pss_one ps_never) pss_nil)
      (pss_cons (ps_set (i := 5) scLoopcounter_of.nd rfl (Or.inl rfl) (pe_ifExp (pt_val (pe_fld (pv 0) rfl)) (pe_op op_sub (pe_op op_sub (pv 4) pe_int) (pv 2)) (pv 2)))
      (pss_one (ps_ret (pe_op op_add (pv 3) (pe_op op_mul (pv 5) (pe_fld (pv 0) rfl))))))))), ?_⟩
    obtain ⟨p, dx, lo, hi, st, rfl, hp⟩ := hL.ref
    refine ⟨_, rfl, p, dx, _, rfl, hp, no_lc _ _ _ _ _, _, rfl, _, l, n, rfl, hL, ok, ?_⟩
    refine ⟨_, rfl, _, rfl, _, rfl, _, l, _, n, rfl, hL, ok, ?_⟩
    refine ⟨_, rfl, _, rfl, _, _, rfl, rfl, k, 0, _, rfl, ?_⟩
    have S0 : 1 ≤ l.S ∧ l.S ≤ 3 := by
      obtain ⟨_, _, _, _, _, _, _, _, _, _, _, _, S0, S1, _⟩ := ok
      exact ⟨S0, S1⟩
    unfold lpN at k1 kk
    rw [decide_eq_true ⟨k0, k1⟩]
    refine ⟨_, rfl, iteF ?_⟩
    refine ⟨_, rfl, p, _, dx, _, _, rfl, hp, T.clL, T.nDn, lp_dn _ _ _ _ _, ?_⟩
    cases hdn : l.dn
    · rw [hdn] at kk
      exact ⟨_, rfl, iteF ⟨_, rfl, _, rfl, _, rfl, _, rfl, p, _, dx, _, _, rfl, hp, T.clL, T.nSp, lp_st _ _ _ _ _, _, _, rfl, rfl, .inr ⟨by omega, by omega⟩, _, _, rfl, rfl, kk⟩⟩
    · rw [hdn] at kk
      exact ⟨_, rfl, iteT ⟨_, rfl, _, _, rfl, rfl, _, rfl, _, _, rfl, rfl, _, rfl, _, rfl, _, rfl, p, _, dx, _, _, rfl, hp, T.clL, T.nSp, lp_st _ _ _ _ _, _, _, rfl, rfl, .inr ⟨by omega, by omega⟩, _, _, rfl, rfl, kk⟩⟩
theorem scStatementis_done : FnScope ["self", "i", "n", "condition"] ["self", "i", "n"] (defScope iStatementis_done) := ⟨rfl, rfl, rfl, by decide +kernel, rfl, by decide +kernel, by decide +kernel⟩
theorem ok_done {fd : FuncData} (F : FnM K "Statement" "is_done" "Statement.is_done" iStatementis_done fd) (T : LwTx K mg) (C : HC P w K mg base) : FnOk P w K mg base CX0 3 (He.ma K (CSt K) "is_done") fd ["self", "i", "n"] (spDone K) := by
  refine F.ok scStatementis_done (fun vs H Q E h => ?_) (fun cdv A outer s H vs Q E hr h => ?_)
  · obtain ⟨v, m, i, n, rfl, _⟩ := h
    rfl
  · obtain ⟨v, m, i, n, rfl, ⟨p, rs, cs, rfl, ⟨dx, q, r, g, hp, hq, hrs, hcs⟩, f1, f2⟩, ok, k⟩ := h
    obtain ⟨fda, Fa, hba, ca⟩ := C.ah
    obtain ⟨fdr, Fr, hbr, cr⟩ := C.rh
    refine ⟨_, PSs.nox (pss_one (ps_ret (pe_callB (cr_all rfl) (by rfl) T.all (by decide +kernel) (pa_cons (pe_lc (own := [("condition", 3)]) (g := gName 3) (tt := tYes) rfl scStatementis_done.nd (pi_tup (pe_fld (pv 0) rfl)) (blkOk_by (N := ["self", "i", "n", "condition"]) (sc := defScope iStatementis_done) (by decide +kernel)) (fun _ _ _ _ _ => (pg_name (i := 3) scStatementis_done.nd rfl (.inl rfl))) (fun _ _ _ _ _ => pts_nil) (fun _ _ _ _ _ => (pe_either (pe_meth (pv 3) T.clA ca Fa (hr.mono (by decide)) hba .nil pass0 (pa_cons (pv 1) (pa_cons (pv 2) pa_nil))) (pe_meth (pv 3) T.clQ cr Fr (hr.mono (by decide)) hbr .nil pass0 (pa_cons (pv 1) (pa_cons (pv 2) pa_nil)))))) pa_nil)))), ?_⟩
    refine ⟨_, rfl, p, _, dx, _, _, rfl, hp, T.clM, T.nMG, stf_g _ _ _ _ _, g, rfl, ⟨_, hcs⟩, fun D hD => ?_⟩
    refine lc_tup (K := K) (xs := cs) (fun j Hc => Hc D = some (.lst (((m.gds.take j).map fun g => gdV g i n).map V.bl)) ∧ Same H Hc) ⟨upd_same, Same.new _ (Same.refl H) hD⟩ (fun j Hc _ z => SqT.same hcs z.2) ?_ ?_
    · rintro j v Hc hv ⟨eD, sc⟩
      obtain ⟨gm, eg, ob⟩ := (f2.imp fun _ _ z => z.same sc).at hv
      have gok := ok.2.2.2.2.2.2.2 gm (List.mem_of_getElem? eg)
      refine ⟨rfl, yes_of ?_⟩
      have fin : Q = Q := rfl
      have lm : (((m.gds.take j).map fun g => gdV g i n).map V.bl).length < sizeLine := sz1l _ (by
        rw [List.length_map, List.length_map, List.length_take]
        have := ok.2.2.2.2.2.1
        omega)
      have nxt : ∃ acc, Hc D = some (.lst acc) ∧ acc.length < sizeLine ∧ ((upd Hc D (.lst (acc ++ [.bl (gdV gm i n)]))) D = some (.lst (((m.gds.take (j + 1)).map fun g => gdV g i n).map V.bl)) ∧ Same H (upd Hc D (.lst (acc ++ [.bl (gdV gm i n)])))) := by
        refine ⟨_, eD, lm, ?_, fun b o e => ?_⟩
        · rw [upd_same, all_take_succ eg, List.map_append]
          rfl
        · rw [upd_ne (ne_of_none e hD)]
          exact sc b o e
      cases gm with
      | lea a b c =>
        obtain ⟨pa, rfl, ha⟩ := ob
        obtain ⟨dxa, qa, ha1, ha2⟩ := id ha
        refine .inl ⟨_, rfl, pa, dxa, _, rfl, ha1, ah_no _, _, rfl, _, rfl, pa, _, _, _, i, n, rfl, ha, (sm_fd gok).1, (sm_fd gok).2, ?_⟩
        · have e := least_form (a := a) (b := b) (c := c) (i := i) (n := n)
          rw [e]
          exact nxt
      | rst a b c md r =>
        obtain ⟨pa, rfl, ha⟩ := ob
        obtain ⟨dxa, qa, ha1, ha2⟩ := id ha
        refine .inr ⟨_, rfl, pa, dxa, _, rfl, ha1, rh_no _ _ _, _, rfl, _, rfl, pa, _, _, _, _, i, n, rfl, ha, sm_fm gok.2.1 gok.2.2.1, sm_fm gok.2.1 gok.2.2.1, (by have := gok.2.1; omega), ?_⟩
        · have e := rest_form (a := a) (b := b) (c := c) (i := i) (n := n) gok.2.1 gok.2.2.1 gok.2.2.2.1 gok.2.2.2.2
          rw [e]
          exact nxt
    · rintro Hc ⟨eD, sc⟩
      have lcs : cs.length = m.gds.length := f2.1
      rw [lcs, List.take_length] at eD
      refine ⟨D, _, rfl, SqL.of eD, ?_⟩
      rw [all_map]
      exact k Hc sc
end
end K28
set_option maxHeartbeats 4000000
namespace K28
open PySem PySem.Spec PyProof.Rows L2 Z
section
variable {P : Program} {w : World} {K : PySem.W.Frag} {mg : Str → Option Value} {base : Heap}
theorem sm3_a {a b c : Int} (h : sm3 a b c) : Sm a ∧ Sm b := by
  obtain ⟨h1, h2, h3, h4, _⟩ := h
  exact ⟨sm_of (by omega) (by omega), sm_of (by omega) (by omega)⟩
theorem sc_law_value : FnScope ["_law_row", "_law_i", "_law_n", "_law_total"] ["_law_row", "_law_i", "_law_n"] (defScope s_law_value) := ⟨rfl, rfl, rfl, by decide +kernel, rfl, by decide +kernel, by decide +kernel⟩
theorem ok_value {f : Addr} {fd : FuncData} (F : FnP K "_law_value" s_law_value f fd) (T : LwTx K mg) : FnOk P w K mg base CX0 1 f fd ["_law_row", "_law_i", "_law_n"] spValue := by
  refine F.ok sc_law_value (fun vs H Q E h => ?_) (fun cdv A outer s H vs Q E hr h => ?_)
  · obtain ⟨t, a, b, c, i, n, rest, rfl, _⟩ := h
    rfl
  · obtain ⟨t, a, b, c, i, n, rest, rfl, ht, sa, sb, k⟩ := h
    refine ⟨_, PSs.nox (pss_cons (ps_set (i := 3) sc_law_value.nd rfl (Or.inl rfl) (pe_op op_add (pe_op op_add (pe_op op_mul (pe_ix (ix_tupK (K := K) rfl) (pv 0) pe_int (fun _ _ => rfl)) (pv 1)) (pe_op op_mul (pe_ix (ix_tupK (K := K) rfl) (pv 0) pe_int (fun _ _ => rfl)) (pv 2))) (pe_ix (ix_tupK (K := K) rfl) (pv 0) pe_int (fun _ _ => rfl))))
      (pss_cons (ps_if (pt_cmpR op_eq (pe_callB call_len_seq (by rfl) T.len PySem.boot_len (pa_cons (pv 0) pa_nil)) pe_int (nomark _)) (pss_one (ps_ret (pe_op op_fdivN (pv 3) (pe_ix (ix_tupK (K := K) rfl) (pv 0) pe_int (fun _ _ => rfl))))) pss_nil)
      (pss_one (ps_ret (pv 3))))), ?_⟩
    refine ⟨_, rfl, t, _, _, _, rfl, rfl, SqT.of ht, at0, _, rfl, _, _, rfl, rfl, .inl sa, ?_⟩
    refine ⟨_, rfl, t, _, _, _, rfl, rfl, SqT.of ht, at1, _, rfl, _, _, rfl, rfl, .inl sb, _, _, rfl, rfl, ?_⟩
    refine ⟨_, rfl, t, _, _, _, rfl, rfl, SqT.of ht, at2, _, _, rfl, rfl, ?_⟩
    refine ⟨_, rfl, t, _, rfl, .inr (SqT.of ht), rfl, _, rfl, ?_⟩
    rcases k with ⟨rfl, k⟩ | ⟨d, rfl, d1, d3, k⟩
    · exact iteF ⟨_, rfl, k⟩
    · exact iteT ⟨_, rfl, _, rfl, t, _, _, _, rfl, rfl, SqT.of ht, at3, _, _, rfl, rfl, ⟨by omega, by omega⟩, k⟩
theorem sc_law_guard_holds : FnScope ["_law_guard", "_law_i", "_law_n"] ["_law_guard", "_law_i", "_law_n"] (defScope s_law_guard_holds) := ⟨rfl, rfl, rfl, by decide +kernel, rfl, by decide +kernel, by decide +kernel⟩
theorem ok_guardH {f : Addr} {fd : FuncData} (F : FnP K "_law_guard_holds" s_law_guard_holds f fd) (T : LwTx K mg) (dValue : Dn P w K mg base 1 "_law_value" ["_law_row", "_law_i", "_law_n"] spValue) : FnOk P w K mg base CX0 2 f fd ["_law_guard", "_law_i", "_law_n"] spGuardH := by
  refine F.ok sc_law_guard_holds (fun vs H Q E h => ?_) (fun cdv A outer s H vs Q E hr h => ?_)
  · obtain ⟨v, g, i, n, rfl, _⟩ := h
    rfl
  · obtain ⟨v, g, i, n, rfl, hd, ok, k⟩ := h
    refine ⟨_, PSs.nox (pss_cons (ps_if (pt_cmpR op_eq (pe_ix (ix_tupK (K := K) rfl) (pv 0) pe_int (fun _ _ => rfl)) pe_str (nomark _)) (pss_one (ps_ret (pe_cmpR op_eq (pe_op op_modN (pe_callTy call_int1 (by rfl) T.int (by decide +kernel) (pa_cons (pe_dn dValue hr (pa_cons (pe_ix (ix_tupK (K := K) rfl) (pv 0) pe_int (fun _ _ => rfl)) (pa_cons (pv 1) (pa_cons (pv 2) pa_nil)))) pa_nil)) (pe_ix (ix_tupK (K := K) rfl) (pv 0) pe_int (fun _ _ => rfl))) (pe_ix (ix_tupK (K := K) rfl) (pv 0) pe_int (fun _ _ => rfl)) (nomark _)))) pss_nil)
      (pss_one (ps_ret (pe_cmpR op_ge (pe_dn dValue hr (pa_cons (pe_ix (ix_tupK (K := K) rfl) (pv 0) pe_int (fun _ _ => rfl)) (pa_cons (pv 1) (pa_cons (pv 2) pa_nil)))) pe_int (nomark _))))), ?_⟩
    cases g with
    | lea a b c =>
      obtain ⟨q, xs, rfl, hq, ds⟩ := hd.tup'
      cases ds with
      | cons r1 r =>
        cases r with
        | cons r2 r =>
          cases r
          cases r1
          obtain ⟨t3, rfl, h3⟩ := dt3' r2
          refine ⟨_, rfl, q, _, _, _, rfl, rfl, SqT.of hq, at0, rfl, _, rfl, if_no (by decide +kernel) ?_⟩
          exact ⟨_, rfl, q, _, _, _, rfl, rfl, SqT.of hq, at1, _, rfl, _, rfl, t3, a, b, c, i, n, [], rfl, h3, (sm3_a ok).1, (sm3_a ok).2, .inl ⟨rfl, _, _, rfl, rfl, k⟩⟩
    | rst a b c m r =>
      obtain ⟨q, xs, rfl, hq, ds⟩ := hd.tup'
      obtain ⟨ok, m2, m4, r0, r1⟩ := ok
      cases ds with
      | cons d1 ds =>
        cases ds with
        | cons d2 ds =>
          cases ds with
          | cons d3 ds =>
            cases ds with
            | cons d4 ds =>
              cases ds
              cases d1
              cases d3
              cases d4
              obtain ⟨t3, rfl, h3⟩ := dt3' d2
              refine ⟨_, rfl, q, _, _, _, rfl, rfl, SqT.of hq, at0, rfl, _, rfl, if_yes (by decide +kernel) ?_⟩
              refine ⟨_, rfl, q, _, _, _, rfl, rfl, SqT.of hq, at1, _, rfl, _, rfl, t3, a, b, c, i, n, [], rfl, h3, (sm3_a ok).1, (sm3_a ok).2, .inl ⟨rfl, .inl ⟨_, rfl, ?_⟩⟩⟩
              refine ⟨_, rfl, q, _, _, _, rfl, rfl, SqT.of hq, at2, _, _, rfl, rfl, by omega, _, rfl, q, _, _, _, rfl, rfl, SqT.of hq, at3, rfl, ?_⟩
              have e : decide (V.int ((a * i + b * n + c).fmod m) = V.int r) = decide ((a * i + b * n + c).fmod m = r) := decide_eq_decide.mpr ⟨V.int.inj, congrArg V.int⟩
              have k : Q (.bl (decide ((a * i + b * n + c).fmod m = r))) H := k
              rw [← e] at k
              exact k
theorem sc_law_counters : FnScope ["_law_row", "_law_n", "_law_low", "_law_high", "_law_found", "_law_counter"] ["_law_row", "_law_n"] (defScope s_law_counters) := ⟨rfl, rfl, rfl, by decide +kernel, rfl, by decide +kernel, by decide +kernel⟩
theorem ok_counters {f : Addr} {fd : FuncData} (F : FnP K "_law_counters" s_law_counters f fd) (T : LwTx K mg) : FnOk P w K mg base CX0 1 f fd ["_law_row", "_law_n"] spCounters := by
  refine F.ok sc_law_counters (fun vs H Q E h => ?_) (fun cdv A outer s H vs Q E hr h => ?_)
  · obtain ⟨v, l, n, rfl, _⟩ := h
    rfl
  · obtain ⟨v, l, n, rfl, hd, ok, n0, n8, k⟩ := h
    obtain ⟨r, t1, t2, ts, xs, rfl, h1, h2, h3, _, _⟩ := dt_lp hd
    obtain ⟨a0, a1, c0, c1, d0, d1, x0, x1, z0, z1, u0, u1, S0, S1, _⟩ := ok
    refine ⟨_, PSs.nox (pss_cons (ps_set (i := 2) sc_law_counters.nd rfl (Or.inl rfl) (pe_op op_fdivN (pe_op op_add (pe_op op_mul (pe_ix (ix_tupK (K := K) rfl) (pe_ix (ix_tupK (K := K) rfl) (pv 0) pe_int (fun _ _ => rfl)) pe_int (fun _ _ => rfl)) (pv 1)) (pe_ix (ix_tupK (K := K) rfl) (pe_ix (ix_tupK (K := K) rfl) (pv 0) pe_int (fun _ _ => rfl)) pe_int (fun _ _ => rfl))) (pe_ix (ix_tupK (K := K) rfl) (pe_ix (ix_tupK (K := K) rfl) (pv 0) pe_int (fun _ _ => rfl)) pe_int (fun _ _ => rfl))))
      (pss_cons (ps_set (i := 3) sc_law_counters.nd rfl (Or.inl rfl) (pe_op op_fdivN (pe_op op_add (pe_op op_mul (pe_ix (ix_tupK (K := K) rfl) (pe_ix (ix_tupK (K := K) rfl) (pv 0) pe_int (fun _ _ => rfl)) pe_int (fun _ _ => rfl)) (pv 1)) (pe_ix (ix_tupK (K := K) rfl) (pe_ix (ix_tupK (K := K) rfl) (pv 0) pe_int (fun _ _ => rfl)) pe_int (fun _ _ => rfl))) (pe_ix (ix_tupK (K := K) rfl) (pe_ix (ix_tupK (K := K) rfl) (pv 0) pe_int (fun _ _ => rfl)) pe_int (fun _ _ => rfl))))
      (pss_cons (ps_setLc (i := 4) (own := [("_law_counter", 5)]) (g := gName 5) rfl sc_law_counters.nd rfl rfl (sw_true rfl rfl rfl (by decide +kernel)) (pi_range3 (by rfl) T.range (pa_cons (pv 2) (pa_cons (pv 3) (pa_cons (pe_ix (ix_tupK (K := K) rfl) (pv 0) pe_int (fun _ _ => rfl)) pa_nil)))) (blkOk_by (N := ["_law_row", "_law_n", "_law_low", "_law_high", "_law_found", "_law_counter"]) (sc := defScope s_law_counters) (by decide +kernel)) (fun _ _ _ _ _ => (pg_name (i := 5) sc_law_counters.nd rfl (.inl rfl))) (fun _ _ _ _ _ => (pts_one (pt_cmpR op_ge (pv 5) pe_int (nomark _)))) (fun _ _ _ _ _ => (pv 5)))
      (pss_one (ps_ret (pe_ifExp (pt_val (pe_ix (ix_tupK (K := K) rfl) (pv 0) pe_int (fun _ _ => rfl))) (pe_revL (pv 4)) (pv 4))))))), ?_⟩
    have b1 := pv_bd (a := l.l0) (c := l.l1) (d := l.l2) a0 (by omega) (by omega) (by omega) d0 n0 n8
    have b2 := pv_bd (a := l.h0) (c := l.h1) (d := l.h2) x0 (by omega) (by omega) (by omega) u0 n0 n8
    have sa := sm_of (x := l.l0) (by omega) (by omega)
    have sx := sm_of (x := l.h0) (by omega) (by omega)
    refine ⟨_, rfl, r, _, _, _, rfl, rfl, SqT.of h1, at0, t1, _, _, _, rfl, rfl, SqT.of h2, at0, _, rfl, _, _, rfl, rfl, .inl sa, ?_⟩
    refine ⟨_, rfl, r, _, _, _, rfl, rfl, SqT.of h1, at0, t1, _, _, _, rfl, rfl, SqT.of h2, at1, _, _, rfl, rfl, ?_⟩
    refine ⟨_, rfl, r, _, _, _, rfl, rfl, SqT.of h1, at0, t1, _, _, _, rfl, rfl, SqT.of h2, at2, _, _, rfl, rfl, ⟨by omega, by omega⟩, ?_⟩
    refine ⟨_, rfl, r, _, _, _, rfl, rfl, SqT.of h1, at1, t2, _, _, _, rfl, rfl, SqT.of h3, at0, _, rfl, _, _, rfl, rfl, .inl sx, ?_⟩
    refine ⟨_, rfl, r, _, _, _, rfl, rfl, SqT.of h1, at1, t2, _, _, _, rfl, rfl, SqT.of h3, at1, _, _, rfl, rfl, ?_⟩
    refine ⟨_, rfl, r, _, _, _, rfl, rfl, SqT.of h1, at1, t2, _, _, _, rfl, rfl, SqT.of h3, at2, _, _, rfl, rfl, ⟨by omega, by omega⟩, ?_⟩
    refine ⟨_, rfl, _, rfl, _, rfl, r, _, _, _, rfl, rfl, SqT.of h1, at2, pv_ l.l0 l.l1 l.l2 n, pv_ l.h0 l.h1 l.h2 n, l.S, _, rfl, rgc_pos S0 (by omega) (by omega) (by omega) (by omega) (by omega), fun D hD => ?_⟩
    refine lc_rangeC (lo := pv_ l.l0 l.l1 l.l2 n) (c := l.S) (fun i Hc => Hc D = some (.lst ((walk (pv_ l.l0 l.l1 l.l2 n) l.S i).map V.int)) ∧ ∀ b o, H b = some o → Hc b = some o) ⟨upd_same, Same.new _ (Same.refl H) hD⟩ ?_ ?_
    · rintro i Hc hi ⟨hc1, hc2⟩
      refine ⟨rfl, ?_⟩
      have hbound : (walk (pv_ l.l0 l.l1 l.l2 n) l.S i).length < sizeLine := by
        have l1 : (walk (pv_ l.l0 l.l1 l.l2 n) l.S i).length ≤ i := by
          unfold walk
          refine Nat.le_trans (List.length_filter_le _ _) ?_
          rw [List.length_map, List.length_range]
          exact Nat.le_refl _
        have l2 : rn_ (pv_ l.l0 l.l1 l.l2 n) (pv_ l.h0 l.h1 l.h2 n) l.S ≤ 200 := by
          rw [rn_pos S0]
          split
          · have := Int.ediv_le_self l.S (show 0 ≤ pv_ l.h0 l.h1 l.h2 n - pv_ l.l0 l.l1 l.l2 n - 1 by omega)
            omega
          · omega
        have l3 : 1000 ≤ sizeLine := by show 1000 ≤ sizeLine; decide
        omega
      refine ⟨_, rfl, _, _, rfl, rfl, _, rfl, ite2 (fun h0 => ?_) (fun h0 => ?_)⟩
      · have h0' : 0 ≤ pv_ l.l0 l.l1 l.l2 n + (i : Int) * l.S := of_decide_eq_true h0
        refine ⟨_, rfl, _, hc1, by rw [List.length_map]; exact hbound, ?_, fun b o e => ?_⟩
        · rw [walk_succ, if_pos h0', List.map_append, upd_same]
          rfl
        · rw [upd_ne (ne_of_none e hD)]
          exact hc2 b o e
      · have h0' : ¬ 0 ≤ pv_ l.l0 l.l1 l.l2 n + (i : Int) * l.S := fun y => h0 (decide_eq_true y)
        refine ⟨?_, hc2⟩
        rw [walk_succ, if_neg h0']
        exact hc1
    · rintro Hc ⟨hc1, hc2⟩
      rw [walk_due S0] at hc1
      have sm : Same H Hc := hc2
      have h1' := sm _ _ h1
      refine ⟨_, rfl, r, _, _, _, rfl, rfl, SqT.of h1', at3, ?_⟩
      cases hdn : l.dn
      · refine ⟨_, rfl, iteF ⟨_, rfl, k D Hc sm hD ?_⟩⟩
        rw [hc1, due_up]
        unfold lpCs
        rw [hdn]
        rfl
      · refine ⟨_, rfl, iteT ⟨_, rfl, D, _, rfl, SqL.of hc1, fun p hp => k p _ (Same.new _ sm hp) (by
          cases hh : H p with
          | none => rfl
          | some o =>
            rw [sm _ _ hh] at hp
            cases hp) ?_⟩⟩
        rw [upd_same, ← List.map_reverse, due_dn]
        unfold lpCs
        rw [hdn]
        rfl
end
end K28
set_option maxHeartbeats 4000000
namespace K28
open PySem PySem.Spec PyProof.Rows L2 Z
abbrev W3 : Type := Int × Int × Int
def wD (w : W3) : PyData := .tuple [.int w.1, .int w.2.1, .int w.2.2]
def w1 (l : LpM) (n : Int) (j : Nat) (c : Int) (k : Nat) : List W3 := match l.sts[k]? with
  | some s => if stDone s c n = true then [((j : Int), c, (k : Int))] else []
  | none => []
def wS (l : LpM) (n : Int) (j : Nat) (c : Int) (m : Nat) : List W3 := (List.range m).flatMap (w1 l n j c)
def wC (l : LpM) (n : Int) (j : Nat) (m : Nat) : List W3 := ((lpCs l n).take m).flatMap fun c => wS l n j c l.sts.length
def wA (ls : List LpM) (n : Int) (m : Nat) : List W3 := (List.range m).flatMap fun j => match ls[j]? with
  | some l => wC l n j (lpCs l n).length
  | none => []
def works (ls : List LpM) (n : Int) : List W3 := wA ls n ls.length
section
variable {l : LpM} {ls : List LpM} {n c : Int} {j m : Nat}
theorem wS_succ : wS l n j c (m + 1) = wS l n j c m ++ w1 l n j c m := by
  unfold wS
  rw [List.range_succ, List.flatMap_append]
  simp
theorem wC_succ (h : (lpCs l n)[m]? = some c) : wC l n j (m + 1) = wC l n j m ++ wS l n j c l.sts.length := by
  unfold wC
  rw [List.take_add_one, h, List.flatMap_append]
  simp
theorem wA_succ (h : ls[m]? = some l) : wA ls n (m + 1) = wA ls n m ++ wC l n m (lpCs l n).length := by
  unfold wA
  rw [List.range_succ, List.flatMap_append]
  simp [h]
theorem w1_len : (w1 l n j c m).length ≤ 1 := by
  unfold w1
  split
  · split <;> simp
  · simp
theorem wS_len : (wS l n j c m).length ≤ m := by
  induction m with
  | zero => simp [wS]
  | succ m ih =>
    rw [wS_succ, List.length_append]
    have := w1_len (l := l) (n := n) (j := j) (c := c) (m := m)
    omega
theorem wC_len : (wC l n j m).length ≤ m * l.sts.length := by
  induction m with
  | zero => simp [wC]
  | succ m ih =>
    cases h : (lpCs l n)[m]? with
    | some c =>
      rw [wC_succ h, List.length_append, Nat.succ_mul]
      have := wS_len (l := l) (n := n) (j := j) (c := c) (m := l.sts.length)
      omega
    | none =>
      have e : wC l n j (m + 1) = wC l n j m := by
        unfold wC
        rw [List.take_add_one, h]
        simp
      rw [e, Nat.succ_mul]
      omega
theorem lpCs_len (ok : LpOk l) (n0 : 0 ≤ n) (n8 : n ≤ 8) : (lpCs l n).length ≤ 60 ∧ ((lpCs l n).length : Int) = lpN l n ∧ ∀ c ∈ lpCs l n, 0 ≤ c ∧ c ≤ 300 := by
  obtain ⟨a0, a1, c0, c1, d0, d1, x0, x1, z0, z1, u0, u1, S0, S1, _⟩ := ok
  have b1 := pv_bd (a := l.l0) (c := l.l1) (d := l.l2) a0 (by omega) (by omega) (by omega) d0 n0 n8
  have b2 := pv_bd (a := l.h0) (c := l.h1) (d := l.h2) x0 (by omega) (by omega) (by omega) u0 n0 n8
  have l0 : 0 ≤ lpL l n ∧ lpL l n ≤ 50 := by
    unfold lpL lc_
    split
    · omega
    · have := fmod_range (x := pv_ l.l0 l.l1 l.l2 n) (show 0 < l.S by omega)
      omega
  have e : lpN l n = rn_ (lpL l n) (pv_ l.h0 l.h1 l.h2 n) l.S := by
    unfold lpN mt_
    exact turns_eq S0
  have nn : 0 ≤ lpN l n ∧ lpN l n ≤ 60 := by
    rw [e, rn_pos S0]
    split
    · have h1 := Int.ediv_le_self l.S (show 0 ≤ pv_ l.h0 l.h1 l.h2 n - lpL l n - 1 by omega)
      have h2 := Int.ediv_nonneg (show 0 ≤ pv_ l.h0 l.h1 l.h2 n - lpL l n - 1 by omega) (show 0 ≤ l.S by omega)
      omega
    · decide
  have len : (lpCs l n).length = (lpN l n).toNat := by
    unfold lpCs due
    rw [List.length_map, List.length_range]
  refine ⟨by omega, by omega, fun c hc => ?_⟩
  unfold lpCs due at hc
  obtain ⟨j, hj, rfl⟩ := List.mem_map.mp hc
  have hj := List.mem_range.mp hj
  have S3 : l.S = 1 ∨ l.S = 2 ∨ l.S = 3 := by omega
  obtain ⟨y, hy⟩ : ∃ y : Int, y = (if l.dn = true then ((lpN l n).toNat : Int) - 1 - (j : Int) else (j : Int)) := ⟨_, rfl⟩
  rw [← hy]
  have yb : 0 ≤ y ∧ y ≤ 60 := by
    rw [hy]
    split <;> omega
  rcases S3 with z | z | z <;> rw [z] <;> omega
theorem wA_len (ok : ∀ l ∈ ls, LpOk l) (n0 : 0 ≤ n) (n8 : n ≤ 8) : (wA ls n m).length ≤ m * 180 := by
  induction m with
  | zero => simp [wA]
  | succ m ih =>
    cases h : ls[m]? with
    | some l =>
      rw [wA_succ h, List.length_append, Nat.succ_mul]
      have okl := ok l (List.mem_of_getElem? h)
      have h1 := wC_len (l := l) (n := n) (j := m) (m := (lpCs l n).length)
      have h2 := (lpCs_len okl n0 n8).1
      have h3 : l.sts.length ≤ 3 := by
        obtain ⟨_, _, _, _, _, _, _, _, _, _, _, _, _, _, _, _, n3, _⟩ := okl
        exact n3
      have h4 : (lpCs l n).length * l.sts.length ≤ 60 * 3 := Nat.mul_le_mul h2 h3
      omega
    | none =>
      have e : wA ls n (m + 1) = wA ls n m := by
        unfold wA
        rw [List.range_succ, List.flatMap_append]
        simp [h]
      rw [e, Nat.succ_mul]
      omega
end
def spWorks : Sp := fun vs H Q _ => ∃ (r : Addr) (xs : List V) (ls : List LpM) (n : Int), vs = [.ref r, .int n] ∧ H r = some (.lst xs) ∧ DTs H xs (ls.map lpD) ∧ ls.length ≤ 3 ∧ (∀ l ∈ ls, LpOk l) ∧ 0 ≤ n ∧ n ≤ 8 ∧
  ∀ (D : Addr) (H' : Hp) (ws : List V), Same H H' → H D = none → H' D = some (.lst ws) → DTs H' ws ((works ls n).map wD) → Q (.ref D) H'
section
variable {P : Program} {w : World} {K : PySem.W.Frag} {mg : Str → Option Value} {base : Heap}
theorem sc_law_works : FnScope ["_law_rows", "_law_n", "_law_found", "_law_loop", "_law_counter", "_law_k", "_law_guard"] ["_law_rows", "_law_n"] (defScope s_law_works) := ⟨rfl, rfl, rfl, by decide +kernel, rfl, by decide +kernel, by decide +kernel⟩
theorem ok_works {f : Addr} {fd : FuncData} (F : FnP K "_law_works" s_law_works f fd) (T : LwTx K mg) (dCounters : Dn P w K mg base 1 "_law_counters" ["_law_row", "_law_n"] spCounters) (dGuardH : Dn P w K mg base 2 "_law_guard_holds" ["_law_guard", "_law_i", "_law_n"] spGuardH) :
    FnOk P w K mg base CX0 3 f fd ["_law_rows", "_law_n"] spWorks := by
  refine F.ok sc_law_works (fun vs H Q E h => ?_) (fun cdv A outer s H vs Q E hr h => ?_)
  · obtain ⟨r, xs, ls, n, rfl, _⟩ := h
    rfl
  · obtain ⟨r, xs, ls, n, rfl, hr0, ds, l3, ok, n0, n8, k⟩ := h
    refine ⟨_, PSs.nox (pss_cons (ps_set (i := 2) sc_law_works.nd rfl (Or.inl rfl) (pe_lst pa_nil))
      (pss_cons (ps_for PassesOwn.never rfl (pi_range1 (by rfl) T.range (pa_cons (pe_callB call_len_seq (by rfl) T.len PySem.boot_len (pa_cons (pv 0) pa_nil)) pa_nil)) (pg_name (i := 3) sc_law_works.nd rfl (.inl rfl)) (pss_one (ps_for PassesOwn.never rfl (pi_list (pe_dn dCounters hr (pa_cons (pe_ix ix_list (pv 0) (pv 3) (fun _ _ => rfl)) (pa_cons (pv 1) pa_nil)))) (pg_name (i := 4) sc_law_works.nd rfl (.inr rfl)) (pss_one (ps_for PassesOwn.never rfl (pi_range1 (by rfl) T.range (pa_cons (pe_callB call_len_seq (by rfl) T.len PySem.boot_len (pa_cons (pe_ix (ix_tupK (K := K) rfl) (pe_ix ix_list (pv 0) (pv 3) (fun _ _ => rfl)) pe_int (fun _ _ => rfl)) pa_nil)) pa_nil)) (pg_name (i := 5) sc_law_works.nd rfl (.inl rfl)) (pss_one (ps_if (pt_val (pe_callB (cr_all rfl) (by rfl) T.all (by decide +kernel) (pa_cons (pe_lc (own := [("_law_guard", 6)]) (g := gName 6) (tt := tYes) rfl sc_law_works.nd (pi_tup (pe_ix (ix_tupK (K := K) rfl) (pe_ix (ix_tupK (K := K) rfl) (pe_ix (ix_tupK (K := K) rfl) (pe_ix ix_list (pv 0) (pv 3) (fun _ _ => rfl)) pe_int (fun _ _ => rfl)) (pv 5) (fun _ _ => rfl)) pe_int (fun _ _ => rfl))) (blkOk_by (N := ["_law_rows", "_law_n", "_law_found", "_law_loop", "_law_counter", "_law_k", "_law_guard"]) (sc := defScope s_law_works) (by decide +kernel)) (fun _ _ _ _ _ => (pg_name (i := 6) sc_law_works.nd rfl (.inl rfl))) (fun _ _ _ _ _ => pts_nil) (fun _ _ _ _ _ => (pe_dn dGuardH hr (pa_cons (pv 6) (pa_cons (pv 4) (pa_cons (pv 1) pa_nil)))))) pa_nil))) (pss_one (ps_expr (pe_bm PySem.F.plainAttrs_list PySem.F.slot_list_append PySem.F.type_list_append mt_append (pv 2) (pa_cons (pe_tup (pa_cons (pv 3) (pa_cons (pv 4) (pa_cons (pv 5) pa_nil)))) pa_nil)))) pss_nil)))))))
      (pss_one (ps_ret (pv 2))))), ?_⟩
    refine ⟨(by decide), fun D hD => ?_⟩
    have nrD : r ≠ D := ne_of_none hr0 hD
    refine normG (σ' := [some (.ref r), some (.int n), some (.ref D), none, none, none, none]) rfl ?_
    have lxs : xs.length = ls.length := by rw [ds.len, List.length_map]
    have sD := Same.new (.lst []) (Same.refl H) hD
    refine ⟨_, rfl, r, _, rfl, .inl (SqL.of (sD _ _ hr0)), (xs.length : Int), rfl, by omega, by omega, ?_⟩
    rw [Int.toNat_natCast]
    refine for_range (lo := 0) (n := xs.length) (fun i σ H' => ∃ (v3 v4 v5 v6 : Option V) (ws : List V), σ = [some (.ref r), some (.int n), some (.ref D), v3, v4, v5, v6] ∧ H' D = some (.lst ws) ∧ DTs H' ws ((wA ls n i).map wD) ∧ Same H H') ⟨_, _, _, _, [], rfl, upd_same, .nil, sD⟩ ?_ ?_
    · rintro i σ H1 hi ⟨v3, v4, v5, v6, ws, rfl, eD, dw, s1⟩
      obtain ⟨l, hl⟩ : ∃ l, ls[i]? = some l := ⟨_, List.getElem?_eq_getElem (by omega)⟩
      have okl := ok l (List.mem_of_getElem? hl)
      obtain ⟨v, hv, dv⟩ := DTs.get i _ ds (by rw [List.getElem?_map, hl]; rfl)
      refine normG (σ' := [some (.ref r), some (.int n), some (.ref D), some (.int (0 + (i : Int))), v4, v5, v6]) rfl ?_
      refine ⟨_, rfl, _, rfl, r, _, _, _, rfl, rfl, SqL.of (s1 _ _ hr0), (by rw [Int.zero_add]; exact atI_nat hv), _, rfl, v, l, n, rfl, dv.same s1, okl, n0, n8, fun L H2 s2 hL eL => ?_⟩
      have nLD : L ≠ D := fun z => by
        rw [z, eD] at hL
        cases hL
      have eD2 := s2 _ _ eD
      refine ⟨L, rfl, ⟨_, SqL.of eL⟩, ?_⟩
      refine for_list (K := K) (xs := (lpCs l n).map V.int) (fun j σ H' => ∃ (v4 v5 v6 : Option V) (ws : List V), σ = [some (.ref r), some (.int n), some (.ref D), some (.int (0 + (i : Int))), v4, v5, v6] ∧ H' D = some (.lst ws) ∧ DTs H' ws ((wA ls n i ++ wC l n i j).map wD) ∧ Same H H' ∧ H' L = some (.lst ((lpCs l n).map V.int)))
        ⟨_, _, _, ws, rfl, eD2, by
          have e : wA ls n i ++ wC l n i 0 = wA ls n i := by simp [wC]
          rw [e]
          exact dw.to (.of s2), s1.trans s2, eL⟩ (fun j σ' H' _ z => SqL.of z.choose_spec.choose_spec.choose_spec.choose_spec.2.2.2.2) ?_ ?_
      · rintro j cv σ H3 hcv ⟨v4, v5, v6, ws, rfl, eD3, dw3, s3, eL3⟩
        rw [List.getElem?_map] at hcv
        obtain ⟨c, hc, rfl⟩ := Option.map_eq_some_iff.mp hcv
        refine normG (σ' := [some (.ref r), some (.int n), some (.ref D), some (.int (0 + (i : Int))), some (.int c), v5, v6]) rfl ?_
        have dv3 := dv.same s3
        obtain ⟨t, q1, q2, ts, ys, rfl, ht, _, _, hts, dst⟩ := dt_lp dv3
        have lys : ys.length = l.sts.length := by rw [dst.len, List.length_map]
        have atr : atI xs (0 + (i : Int)) = some (.ref t) := by rw [Int.zero_add]; exact atI_nat hv
        refine ⟨_, rfl, _, rfl, r, _, _, _, rfl, rfl, SqL.of (s3 _ _ hr0), atr, t, _, _, _, rfl, rfl, SqT.of ht, at4, ts, _, rfl, .inr (SqT.of hts), (ys.length : Int), rfl, by omega, by
          have := okl
          obtain ⟨_, _, _, _, _, _, _, _, _, _, _, _, _, _, _, _, n3, _⟩ := this
          omega, ?_⟩
        rw [Int.toNat_natCast]
        refine for_range (lo := 0) (n := ys.length) (fun q σ H' => ∃ (v5 v6 : Option V) (ws : List V), σ = [some (.ref r), some (.int n), some (.ref D), some (.int (0 + (i : Int))), some (.int c), v5, v6] ∧ H' D = some (.lst ws) ∧ DTs H' ws (((wA ls n i ++ wC l n i j) ++ wS l n i c q).map wD) ∧ Same H H' ∧ H' L = some (.lst ((lpCs l n).map V.int)) ∧ TSame H3 H')
          ⟨_, _, ws, rfl, eD3, by
            have e : (wA ls n i ++ wC l n i j) ++ wS l n i c 0 = wA ls n i ++ wC l n i j := by simp [wS]
            rw [e]
            exact dw3, s3, eL3, .refl _⟩ ?_ ?_
        · rintro q σ H4 hq ⟨v5, v6, ws, rfl, eD4, dw4, s4, eL4, ts4⟩
          refine normG (σ' := [some (.ref r), some (.int n), some (.ref D), some (.int (0 + (i : Int))), some (.int c), some (.int (0 + (q : Int))), v6]) rfl ?_
          obtain ⟨s, hs⟩ : ∃ s, l.sts[q]? = some s := ⟨_, List.getElem?_eq_getElem (by omega)⟩
          obtain ⟨u, hu, du⟩ := DTs.get q _ dst (by rw [List.getElem?_map, hs]; rfl)
          obtain ⟨t6, q6, tr6, tg6, x6, y6, rfl, h6, _, _, _, hg6, dg6⟩ := dt_st (du.to ts4)
          have atu : atI ys (0 + (q : Int)) = some (.ref t6) := by rw [Int.zero_add]; exact atI_nat hu
          have oks : StOk s := by
            obtain ⟨_, _, _, _, _, _, _, _, _, _, _, _, _, _, _, _, _, okS⟩ := okl
            exact okS s (List.mem_of_getElem? hs)
          have ht4 := ts4 _ _ ht
          have hts4 := ts4 _ _ hts
          refine ⟨_, rfl, _, rfl, r, _, _, _, rfl, rfl, SqL.of (s4 _ _ hr0), atr, t, _, _, _, rfl, rfl, SqT.of ht4, at4, _, rfl, ts, _, _, _, rfl, rfl, SqT.of hts4, atu, t6, _, _, _, rfl, rfl, SqT.of h6, at4, tg6, rfl, ⟨_, SqT.of hg6⟩, fun E1 hE1 => ?_⟩
          refine lc_tup (K := K) (xs := y6) (fun b Hc => Hc E1 = some (.lst (((s.gds.take b).map fun g => gdV g c n).map V.bl)) ∧ Same H4 Hc) ⟨upd_same, Same.new _ (Same.refl H4) hE1⟩ (fun b Hc _ z => SqT.of (z.2 _ _ hg6)) ?_ ?_
          · rintro b gv Hc hgv ⟨eE, sc⟩
            obtain ⟨g, hg, dgv⟩ := (dg6.to (.of sc)).map' hgv
            refine ⟨rfl, yes_of ?_⟩
            refine ⟨_, rfl, _, rfl, _, rfl, gv, g, c, n, rfl, dgv, oks.2.2.2.2.2.2.2 g (List.mem_of_getElem? hg), ?_⟩
            refine ⟨_, eE, sz1l _ (by
              rw [List.length_map, List.length_map, List.length_take]
              have := oks.2.2.2.2.2.1
              omega), ?_, fun b' o e => ?_⟩
            · rw [upd_same, all_take_succ hg, List.map_append]
              rfl
            · rw [upd_ne (ne_of_none e hE1)]
              exact sc b' o e
          · rintro Hc ⟨eE, sc⟩
            have ly : y6.length = s.gds.length := by rw [dg6.len, List.length_map]
            rw [ly, List.take_length] at eE
            have eDc := sc _ _ eD4
            refine ⟨E1, _, rfl, SqL.of eE, _, rfl, ?_⟩
            rw [all_map]
            have e1 : w1 l n i c q = if stDone s c n = true then [((i : Int), c, (q : Int))] else [] := by
              unfold w1
              rw [hs]
            by_cases hd : stDone s c n = true
            · refine if_yes hd ?_
              refine ⟨_, rfl, .inl ⟨rfl, _, SqL.of eDc⟩, _, rfl, _, rfl, _, rfl, sz3, fun TT hTT => ?_⟩
              have sT := Same.new (.tup [.int (0 + (i : Int)), .int c, .int (0 + (q : Int))]) (Same.refl Hc) hTT
              have eDT := sT _ _ eDc
              have bnd : ws.length < sizeLine := sz1l _ (by
                rw [dw4.len, List.length_map, List.length_append, List.length_append]
                have h1 := wA_len (m := i) ok n0 n8
                have h2 := wC_len (l := l) (n := n) (j := i) (m := j)
                have h3 := wS_len (l := l) (n := n) (j := i) (c := c) (m := q)
                have h4 : j < (lpCs l n).length := (List.getElem?_eq_some_iff.mp hc).1
                have h5 := (lpCs_len okl n0 n8).1
                have n3 : l.sts.length ≤ 3 := by
                  have := okl
                  obtain ⟨_, _, _, _, _, _, _, _, _, _, _, _, _, _, _, _, n3, _⟩ := this
                  exact n3
                have h6 : j * l.sts.length ≤ 60 * 3 := Nat.mul_le_mul (by omega) n3
                have h7 : i * 180 ≤ 3 * 180 := Nat.mul_le_mul_right _ (by omega)
                omega)
              refine ⟨D, _, _, rfl, rfl, eDT, bnd, ?_⟩
              have tsU : TSame (upd Hc TT (.tup [.int (0 + (i : Int)), .int c, .int (0 + (q : Int))])) (upd (upd Hc TT (.tup [.int (0 + (i : Int)), .int c, .int (0 + (q : Int))])) D (.lst (ws ++ [.ref TT]))) := .updL eDT
              refine ⟨_, _, ws ++ [.ref TT], rfl, upd_same, ?_, fun b o e => ?_, ?_, ts4.trans ((TSame.of (sc.trans sT)).trans tsU)⟩
              · rw [wS_succ, e1, if_pos hd, ← List.append_assoc]
                refine ((dw4.to (.of (sc.trans sT))).to tsU).snoc ?_
                rw [show wD ((i : Int), c, (q : Int)) = .tuple [.int (0 + (i : Int)), .int c, .int (0 + (q : Int))] by unfold wD; rw [Int.zero_add, Int.zero_add]]
                exact dt3 (tsU _ _ upd_same)
              · rw [upd_ne (ne_of_none e hD)]
                exact sT _ _ (sc _ _ (s4 b o e))
              · rw [upd_ne nLD]
                exact sT _ _ (sc _ _ eL4)
            · refine if_no (Bool.eq_false_iff.mpr hd) ?_
              refine ⟨_, _, ws, rfl, eDc, ?_, s4.trans sc, sc _ _ eL4, ts4.trans (.of sc)⟩
              rw [wS_succ, e1, if_neg hd, List.append_nil]
              exact dw4.to (.of sc)
        · rintro σ H4 ⟨v5, v6, ws, rfl, eD4, dw4, s4, eL4, ts4⟩
          refine ⟨_, _, _, ws, rfl, eD4, ?_, s4, eL4⟩
          rw [wC_succ hc, ← List.append_assoc, ← lys]
          exact dw4
      · rintro σ H3 ⟨v4, v5, v6, ws, rfl, eD3, dw3, s3, eL3⟩
        refine ⟨_, _, _, _, ws, rfl, eD3, ?_, s3⟩
        rw [List.length_map] at dw3
        rw [wA_succ hl]
        exact dw3
    · rintro σ H1 ⟨v3, v4, v5, v6, ws, rfl, eD, dw, s1⟩
      rw [lxs] at dw
      exact ⟨_, rfl, k D H1 ws s1 hD eD dw⟩
end
end K28
set_option maxHeartbeats 4000000
namespace K28
open PySem PySem.Spec PyProof.Rows L2 Z
theorem lpN_nn {l : LpM} {n : Int} : 0 ≤ lpN l n := by
  unfold lpN mt_
  split <;> omega
theorem lpCs_eq {l : LpM} {n : Int} : ((lpCs l n).length : Int) = lpN l n := by
  have := lpN_nn (l := l) (n := n)
  unfold lpCs due
  rw [List.length_map, List.length_range]
  omega
/-- at most so many turns in each loop -/
def Few (ls : List LpM) (n : Int) : Prop := ∀ l ∈ ls, lpN l n ≤ 20000
theorem wA_fewB (B : Nat) {ls : List LpM} {n : Int} {m : Nat} (h4 : ∀ l ∈ ls, (lpCs l n).length * l.sts.length ≤ B) : (wA ls n m).length ≤ m * B := by
  induction m with
  | zero => simp [wA]
  | succ m ih =>
    cases h : ls[m]? with
    | some l =>
      rw [wA_succ h, List.length_append, Nat.succ_mul]
      exact Nat.add_le_add ih (Nat.le_trans wC_len (h4 l (List.mem_of_getElem? h)))
    | none =>
      have e : wA ls n (m + 1) = wA ls n m := by
        unfold wA
        rw [List.range_succ, List.flatMap_append]
        simp [h]
      rw [e, Nat.succ_mul]
      exact Nat.le_trans ih (Nat.le_add_right _ _)
theorem few_B {ls : List LpM} {n : Int} (ok : ∀ l ∈ ls, LpOk l) (nb : Few ls n) (l : LpM) (h : l ∈ ls) : (lpCs l n).length * l.sts.length ≤ 20000 * 3 := by
  have h2 := nb l h
  have h5 := lpCs_eq (l := l) (n := n)
  have h3 : l.sts.length ≤ 3 := by
    obtain ⟨_, _, _, _, _, _, _, _, _, _, _, _, _, _, _, _, n3, _⟩ := ok l h
    exact n3
  exact Nat.mul_le_mul (by omega) h3
theorem wA_few {ls : List LpM} {n : Int} (ok : ∀ l ∈ ls, LpOk l) (nb : Few ls n) {m : Nat} : (wA ls n m).length ≤ m * (20000 * 3) := wA_fewB _ (few_B ok nb)
theorem sz1m (n : Nat) (h : n < 1000000) : n < sizeLine := Nat.lt_of_lt_of_le h (by show 1000000 ≤ sizeLine; decide)
def spWorksOf (K : PySem.W.Frag) : Sp := fun vs H Q _ => ∃ (v : V) (ls : List LpM) (n : Int), vs = [v, .int n] ∧ PrOb K H v ls ∧ ls.length ≤ 3 ∧ (∀ l ∈ ls, LpOk l) ∧ Few ls n ∧
  ∀ (D : Addr) (H' : Hp) (ws : List V), Same H H' → H D = none → H' D = some (.lst ws) → DTs H' ws ((works ls n).map wD) → Q (.ref D) H'
theorem prf_l (l a d : Addr) : (prf l a d).lookup ("loops" : Str) = some (.ref l) := by
  unfold prf prf2
  rw [lookup_putF, if_neg (by decide +kernel), lookup_putF, if_neg (by decide +kernel), lookup_putF, if_pos rfl]
theorem no_done (x : Str) (q : Addr) (k : Int) (r g : Addr) : (stf x q k r g).lookup ("is_done" : Str) = none := by
  unfold stf
  rw [lookup_putF, if_neg (by decide +kernel), lookup_putF, if_neg (by decide +kernel), lookup_putF, if_neg (by decide +kernel), lookup_putF, if_neg (by decide +kernel), lookup_putF, if_neg (by decide +kernel)]
  rfl
/-- the loops' methods, where none raises -/
structure LM (P : Program) (w : World) (K : PySem.W.Frag) (mg : Str → Option Value) (base : Heap) : Prop where
  mt : ∃ fd, FnOk P w K mg base CX0 4 (He.ma K (CL K) "many_turns") fd ["self", "n"] (spMT K) ∧ Binds K fd ["self", "n"] [] ∧ Meth K (CL K) "many_turns" (He.ma K (CL K) "many_turns")
  co : ∃ fd, FnOk P w K mg base CX0 4 (He.ma K (CL K) "counter_of") fd ["self", "n", "turn"] (spCO K) ∧ Binds K fd ["self", "n", "turn"] [] ∧ Meth K (CL K) "counter_of" (He.ma K (CL K) "counter_of")
  dn : ∃ fd, FnOk P w K mg base CX0 3 (He.ma K (CSt K) "is_done") fd ["self", "i", "n"] (spDone K) ∧ Binds K fd ["self", "i", "n"] [] ∧ Meth K (CSt K) "is_done" (He.ma K (CSt K) "is_done")
section
variable {P : Program} {w : World} {K : PySem.W.Frag} {mg : Str → Option Value} {base : Heap}
theorem sc_works_of : FnScope ["program", "n", "told", "place", "loop", "turn", "counter", "number", "statement"] ["program", "n"] (defScope s_works_of) := ⟨rfl, rfl, rfl, by decide +kernel, rfl, by decide +kernel, by decide +kernel⟩
theorem ok_worksOf {f : Addr} {fd : FuncData} (F : FnP K "works_of" s_works_of f fd) (T : LwTx K mg) (L : LM P w K mg base) : FnOk P w K mg base CX0 5 f fd ["program", "n"] (spWorksOf K) := by
  refine F.ok sc_works_of (fun vs H Q E h => ?_) (fun cdv A outer s H vs Q E hr h => ?_)
  · obtain ⟨v, ls, n, rfl, _⟩ := h
    rfl
  · obtain ⟨v, ls, n, rfl, ⟨p, xs, ys, rfl, ⟨dx, lt, at_, dk, hp, hlt, hat⟩, fa⟩, l3, ok, nb, k⟩ := h
    obtain ⟨fdm, Fm, hbm, cm⟩ := L.mt
    obtain ⟨fdo, Fo, hbo, co⟩ := L.co
    obtain ⟨fdd, Fd, hbd, cd⟩ := L.dn
    refine ⟨_, PSs.nox (pss_cons (ps_set (i := 2) sc_works_of.nd rfl (Or.inl rfl) (pe_lst pa_nil))
      (pss_cons (ps_for PassesOwn.never rfl (pi_enumT (by rfl) T.enumerate (pa_cons (pe_fld (pv 0) rfl) pa_nil)) (pg_tup (by rfl) (pgs_cons (pg_name (i := 3) sc_works_of.nd rfl (.inl rfl)) (pgs_cons (pg_name (i := 4) sc_works_of.nd rfl (.inl rfl)) pgs_nil))) (pss_one (ps_for PassesOwn.never rfl (pi_range1 (by rfl) T.range (pa_cons (pe_meth (pv 4) T.clL cm Fm (hr.mono (by decide)) hbm .nil pass0 (pa_cons (pv 1) pa_nil)) pa_nil)) (pg_name (i := 5) sc_works_of.nd rfl (.inl rfl)) (pss_cons (ps_set (i := 6) sc_works_of.nd rfl (Or.inl rfl) (pe_meth (pv 4) T.clL co Fo (hr.mono (by decide)) hbo .nil pass0 (pa_cons (pv 1) (pa_cons (pv 5) pa_nil))))
      (pss_one (ps_for PassesOwn.never rfl (pi_enumT (by rfl) T.enumerate (pa_cons (pe_fld (pv 4) rfl) pa_nil)) (pg_tup (by rfl) (pgs_cons (pg_name (i := 7) sc_works_of.nd rfl (.inl rfl)) (pgs_cons (pg_name (i := 8) sc_works_of.nd rfl (.inl rfl)) pgs_nil))) (pss_one (ps_if (pt_val (pe_meth (pv 8) T.clM cd Fd (hr.mono (by decide)) hbd .nil pass0 (pa_cons (pv 6) (pa_cons (pv 1) pa_nil)))) (pss_one (ps_expr (pe_bm PySem.F.plainAttrs_list PySem.F.slot_list_append PySem.F.type_list_append mt_append (pv 2) (pa_cons (pe_tup (pa_cons (pv 3) (pa_cons (pv 6) (pa_cons (pv 7) pa_nil)))) pa_nil)))) pss_nil))))))))
      (pss_one (ps_ret (pv 2))))), ?_⟩
    refine ⟨(by decide), fun D hD => ?_⟩
    have sD := Same.new (.lst []) (Same.refl H) hD
    refine normG (σ' := [some (.ref p), some (.int n), some (.ref D), none, none, none, none, none, none]) rfl ?_
    refine ⟨_, rfl, p, _, dx, _, _, rfl, sD _ _ hp, T.clP, T.nPL, prf_l _ _ _, lt, xs, rfl, SqT.same hlt sD, ?_⟩
    refine for_it (walk_enumT (K := K) (a := lt) (xs := xs)) (fun i σ H' => ∃ (v3 v4 v5 v6 v7 v8 : Option V) (ws : List V), σ = [some (.ref p), some (.int n), some (.ref D), v3, v4, v5, v6, v7, v8] ∧ H' D = some (.lst ws) ∧ DTs H' ws ((wA ls n i).map wD) ∧ Same H H') ⟨_, _, _, _, _, _, [], rfl, upd_same, .nil, sD⟩ (fun i σ H' _ z => by
      obtain ⟨_, _, _, _, _, _, _, _, _, _, s⟩ := z
      exact SqT.same hlt s) ?_ ?_
    · rintro i tv σ H1 H2 hi ⟨v3, v4, v5, v6, v7, v8, ws, rfl, eD, dw, s1⟩ ⟨U, x, y, rfl, hU, rfl, ex, ey⟩
      cases ex
      obtain ⟨l, hl, ob⟩ := fa.at ey
      have okl := ok l (List.mem_of_getElem? hl)
      have lb := lpCs_eq (l := l) (n := n)
      have lnb := nb l (List.mem_of_getElem? hl)
      have lnn := lpN_nn (l := l) (n := n)
      have n3 : l.sts.length ≤ 3 := by
        have := okl
        obtain ⟨_, _, _, _, _, _, _, _, _, _, _, _, _, _, _, _, n3, _⟩ := this
        exact n3
      have nUD : U ≠ D := (ne_of_none eD hU).symm
      have s2 : Same H1 (upd H1 U (.tup [.int (i : Int), y])) := Same.new _ (Same.refl H1) hU
      refine ⟨U, _, rfl, SqT.of upd_same, rfl, _, _, rfl, ?_⟩
      have eD2 := s2 _ _ eD
      obtain ⟨H2, eH2⟩ : ∃ L, L = upd H1 U (.tup [.int (i : Int), y]) := ⟨_, rfl⟩
      rw [← eH2] at s2 eD2 ⊢
      have ob2 := ob.same (s1.trans s2)
      refine normG (σ' := [some (.ref p), some (.int n), some (.ref D), some (.int (i : Int)), v4, v5, v6, v7, v8]) rfl ?_
      refine ⟨_, _, rfl, ?_⟩
      refine normG (σ' := [some (.ref p), some (.int n), some (.ref D), some (.int (i : Int)), some y, v5, v6, v7, v8]) rfl ?_
      refine ⟨rfl, ?_⟩
      obtain ⟨q, t, u, ss, rfl, lat, f1, f2, fs⟩ := id ob2
      obtain ⟨dq, lo, hi', st, hq, hlo, hhi, hst⟩ := id lat
      refine ⟨_, rfl, q, dq, _, rfl, hq, no_mt _ _ _ _ _, _, rfl, _, l, n, rfl, ob2, okl, lpN l n, rfl, by omega, by omega, ?_⟩
      obtain ⟨N, hN⟩ : ∃ N : Nat, N = (lpCs l n).length := ⟨_, rfl⟩
      rw [show (lpN l n).toNat = N by omega]
      refine for_range (lo := 0) (n := N) (fun j σ H' => ∃ (v5 v6 v7 v8 : Option V) (ws : List V), σ = [some (.ref p), some (.int n), some (.ref D), some (.int (i : Int)), some (.ref q), v5, v6, v7, v8] ∧ H' D = some (.lst ws) ∧ DTs H' ws ((wA ls n i ++ wC l n i j).map wD) ∧ Same H H' ∧ MS H2 H')
        ⟨_, _, _, _, ws, rfl, eD2, by
          have e : wA ls n i ++ wC l n i 0 = wA ls n i := by simp [wC]
          rw [e]
          exact dw.to (.of s2), s1.trans s2, .refl _⟩ ?_ ?_
      · rintro j σ H3 hj ⟨v5, v6, v7, v8, ws, rfl, eD3, dw3, s3, m3⟩
        refine normG (σ' := [some (.ref p), some (.int n), some (.ref D), some (.int (i : Int)), some (.ref q), some (.int (0 + (j : Int))), v6, v7, v8]) rfl ?_
        have ob3 := ob2.ms m3
        have hq3 := m3 _ _ hq rfl
        refine ⟨_, rfl, q, dq, _, rfl, hq3, no_co _ _ _ _ _, _, rfl, _, rfl, _, l, n, 0 + (j : Int), rfl, ob3, okl, by omega, by omega, ?_⟩
        obtain ⟨c, hc⟩ : ∃ c, (lpCs l n)[j]? = some c := ⟨_, List.getElem?_eq_getElem (by omega)⟩
        have ec : lpL l n + (if l.dn = true then lpN l n - 1 - (0 + (j : Int)) else 0 + (j : Int)) * l.S = c := by
          have e : (lpCs l n)[j]? = some (lpL l n + (if l.dn = true then ((lpN l n).toNat : Int) - 1 - (j : Int) else (j : Int)) * l.S) := by
            unfold lpCs due
            rw [List.getElem?_map, List.getElem?_range (by omega)]
            rfl
          rw [hc] at e
          rw [Option.some.inj e, Int.zero_add, show ((lpN l n).toNat : Int) = lpN l n by omega]
        rw [ec]
        refine normG (σ' := [some (.ref p), some (.int n), some (.ref D), some (.int (i : Int)), some (.ref q), some (.int (0 + (j : Int))), some (.int c), v7, v8]) rfl ?_
        have hst3 : SqT K H3 st ss := m3.sqT hst
        refine ⟨_, rfl, q, _, dq, _, _, rfl, hq3, T.clL, T.nSt, lp_tt _ _ _ _ _, st, ss, rfl, hst3, ?_⟩
        refine for_it (walk_enumT (K := K) (a := st) (xs := ss)) (fun g σ H' => ∃ (v7 v8 : Option V) (ws : List V), σ = [some (.ref p), some (.int n), some (.ref D), some (.int (i : Int)), some (.ref q), some (.int (0 + (j : Int))), some (.int c), v7, v8] ∧ H' D = some (.lst ws) ∧ DTs H' ws (((wA ls n i ++ wC l n i j) ++ wS l n i c g).map wD) ∧ Same H H' ∧ MS H2 H')
          ⟨_, _, ws, rfl, eD3, by
            have e : (wA ls n i ++ wC l n i j) ++ wS l n i c 0 = wA ls n i ++ wC l n i j := by simp [wS]
            rw [e]
            exact dw3, s3, m3⟩ (fun g σ H' _ z => by
          obtain ⟨_, _, _, _, _, _, _, m⟩ := z
          exact m.sqT hst) ?_ ?_
        · rintro g tv2 σ H4 H5 hg ⟨v7, v8, ws, rfl, eD4, dw4, s4, m4⟩ ⟨U2, x2, y2, rfl, hU2, rfl, ex2, ey2⟩
          cases ex2
          obtain ⟨s, hs, obs⟩ := fs.at ey2
          have oks : StOk s := by
            have := okl
            obtain ⟨_, _, _, _, _, _, _, _, _, _, _, _, _, _, _, _, _, okS⟩ := this
            exact okS s (List.mem_of_getElem? hs)
          have s5 : Same H4 (upd H4 U2 (.tup [.int (g : Int), y2])) := Same.new _ (Same.refl H4) hU2
          refine ⟨U2, _, rfl, SqT.of upd_same, rfl, _, _, rfl, ?_⟩
          have eD5 := s5 _ _ eD4
          obtain ⟨H5, eH5⟩ : ∃ L, L = upd H4 U2 (.tup [.int (g : Int), y2]) := ⟨_, rfl⟩
          rw [← eH5] at s5 eD5 ⊢
          have m5 : MS H2 H5 := m4.trans (.of s5)
          have obs5 := obs.ms m5
          refine normG (σ' := [some (.ref p), some (.int n), some (.ref D), some (.int (i : Int)), some (.ref q), some (.int (0 + (j : Int))), some (.int c), some (.int (g : Int)), v8]) rfl ?_
          refine ⟨_, _, rfl, ?_⟩
          refine normG (σ' := [some (.ref p), some (.int n), some (.ref D), some (.int (i : Int)), some (.ref q), some (.int (0 + (j : Int))), some (.int c), some (.int (g : Int)), some y2]) rfl ?_
          refine ⟨rfl, ?_⟩
          obtain ⟨w2, rs, cs, rfl, ⟨d2, q2, r2, g2', hw2, hw3, hw4, hw5⟩, fr, fc⟩ := id obs5
          refine ⟨_, rfl, w2, d2, _, rfl, hw2, no_done _ _ _ _ _, _, rfl, _, rfl, _, s, c, n, rfl, obs5, oks, fun H6 s6 => ?_⟩
          refine ⟨_, rfl, ?_⟩
          have eD6 := s6 _ _ eD5
          have e1 : w1 l n i c g = if stDone s c n = true then [((i : Int), c, (g : Int))] else [] := by
            unfold w1
            rw [hs]
          by_cases hd : stDone s c n = true
          · refine if_yes hd ?_
            refine ⟨_, rfl, .inl ⟨rfl, _, SqL.of eD6⟩, _, rfl, _, rfl, _, rfl, sz3, fun TT hTT => ?_⟩
            have sT := Same.new (.tup [.int (i : Int), .int c, .int (g : Int)]) (Same.refl H6) hTT
            have eDT := sT _ _ eD6
            have bnd : ws.length < sizeLine := sz1m _ (by
              rw [dw4.len, List.length_map, List.length_append, List.length_append]
              have h1 := wA_few (m := i) ok nb
              have h2 := wC_len (l := l) (n := n) (j := i) (m := j)
              have h3 := wS_len (l := l) (n := n) (j := i) (c := c) (m := g)
              have h4 : g < l.sts.length := (List.getElem?_eq_some_iff.mp hs).1
              have h6 : j * l.sts.length ≤ 20000 * 3 := Nat.mul_le_mul (by omega) n3
              have h7 : i * 60000 ≤ 3 * 60000 := Nat.mul_le_mul_right _ (by
                have := fa.1
                omega)
              omega)
            refine ⟨D, _, _, rfl, rfl, eDT, bnd, ?_⟩
            have msU : MS (upd H6 TT (.tup [.int (i : Int), .int c, .int (g : Int)])) (upd (upd H6 TT (.tup [.int (i : Int), .int c, .int (g : Int)])) D (.lst (ws ++ [.ref TT]))) := .updL eDT
            have s46 := s5.trans (s6.trans sT)
            refine ⟨_, _, ws ++ [.ref TT], rfl, upd_same, ?_, fun b o e => ?_, (m4.trans (.of s46)).trans msU⟩
            · rw [wS_succ, e1, if_pos hd, ← List.append_assoc]
              exact ((dw4.to (.of s46)).to msU.t).snoc (dt3 (msU.t _ _ upd_same))
            · rw [upd_ne (ne_of_none e hD)]
              exact s46 _ _ (s4 b o e)
          · refine if_no (Bool.eq_false_iff.mpr hd) ?_
            refine ⟨_, _, ws, rfl, eD6, ?_, s4.trans (s5.trans s6), m5.trans (.of s6)⟩
            rw [wS_succ, e1, if_neg hd, List.append_nil]
            exact dw4.to (.of (s5.trans s6))
        · rintro σ H4 ⟨v7, v8, ws, rfl, eD4, dw4, s4, m4⟩
          refine ⟨_, _, _, _, ws, rfl, eD4, ?_, s4, m4⟩
          rw [wC_succ hc, ← List.append_assoc, ← fs.1]
          exact dw4
      · rintro σ H3 ⟨v5, v6, v7, v8, ws, rfl, eD3, dw3, s3, m3⟩
        refine ⟨_, _, _, _, _, _, ws, rfl, eD3, ?_, s3⟩
        rw [wA_succ hl, ← hN]
        exact dw3
    · rintro σ H1 ⟨v3, v4, v5, v6, v7, v8, ws, rfl, eD, dw, s1⟩
      rw [fa.1] at dw
      exact ⟨_, rfl, k D H1 ws s1 hD eD dw⟩
end
end K28
set_option maxHeartbeats 4000000
namespace K28
open PySem PySem.Spec PyProof.Rows L2 Z
abbrev Cell : Type := Str × Int
abbrev DM : Type := List (Cell × W3)
abbrev Take : Type := Cell × Option W3
abbrev Ent : Type := W3 × Cell × List Take
def cK (c : Cell) : List Key := [Sum.inr c.1, Sum.inl c.2]
theorem cK_inj {a b : Cell} (h : cK a = cK b) : a = b := by
  obtain ⟨x, i⟩ := a
  obtain ⟨y, j⟩ := b
  unfold cK at h
  simp only [List.cons.injEq, Sum.inr.injEq, Sum.inl.injEq, and_true] at h
  rw [h.1, h.2]
def cD (c : Cell) : PyData := .tuple [.str c.1, .int c.2]
def dPut (m : DM) (c : Cell) (w : W3) : DM := if (m.any fun e => decide (e.1 = c)) = true then m.map (fun e => if e.1 = c then (e.1, w) else e) else m ++ [(c, w)]
def dGet (m : DM) (c : Cell) : Option W3 := (m.find? fun e => decide (e.1 = c)).map (·.2)
def DR (H : Hp) : List (List Key × V) → DM → Prop
  | [], [] => True
  | e :: r, f :: m => e.1 = cK f.1 ∧ DT H e.2 (wD f.2) ∧ DR H r m
  | [], _ :: _ => False
  | _ :: _, [] => False
section
variable {H H' : Hp}
theorem DR.to (s : TSame H H') : ∀ {kvs : List (List Key × V)} {m : DM}, DR H kvs m → DR H' kvs m
  | [], [], _ => trivial
  | e :: r, f :: m, h => ⟨h.1, h.2.1.to s, DR.to s h.2.2⟩
  | [], _ :: _, h => h.elim
  | _ :: _, [], h => h.elim
theorem DR.len : ∀ {kvs : List (List Key × V)} {m : DM}, DR H kvs m → kvs.length = m.length
  | [], [], _ => rfl
  | e :: r, f :: m, h => by rw [List.length_cons, List.length_cons, DR.len h.2.2]
  | [], _ :: _, h => h.elim
  | _ :: _, [], h => h.elim
theorem DR.get (c : Cell) : ∀ {kvs : List (List Key × V)} {m : DM}, DR H kvs m → (valV kvs (cK c) = none ∧ dGet m c = none) ∨ ∃ v w, valV kvs (cK c) = some v ∧ dGet m c = some w ∧ DT H v (wD w)
  | [], [], _ => .inl ⟨rfl, rfl⟩
  | e :: r, f :: m, h => by
    by_cases hc : f.1 = c
    · refine .inr ⟨e.2, f.2, valV_pos (by rw [h.1, hc]), ?_, h.2.1⟩
      unfold dGet
      rw [List.find?_cons]
      simp [hc]
    · have e1 : valV (e :: r) (cK c) = valV r (cK c) := valV_neg (by rw [h.1]; exact fun z => hc (cK_inj z))
      have e2 : dGet (f :: m) c = dGet m c := by
        unfold dGet
        rw [List.find?_cons]
        simp [hc]
      rw [e1, e2]
      exact DR.get c h.2.2
  | [], _ :: _, h => h.elim
  | _ :: _, [], h => h.elim
theorem DR.any (c : Cell) : ∀ {kvs : List (List Key × V)} {m : DM}, DR H kvs m → (kvs.any fun kv => decide (kv.1 = cK c)) = (m.any fun e => decide (e.1 = c))
  | [], [], _ => rfl
  | e :: r, f :: m, h => by
    rw [List.any_cons, List.any_cons, DR.any c h.2.2, h.1]
    congr 1
    exact decide_eq_decide.mpr ⟨fun z => cK_inj z, fun z => by rw [z]⟩
  | [], _ :: _, h => h.elim
  | _ :: _, [], h => h.elim
theorem DR.map {c : Cell} {w : W3} {v : V} (hv : DT H v (wD w)) : ∀ {kvs : List (List Key × V)} {m : DM}, DR H kvs m → DR H (kvs.map fun kv => if kv.1 = cK c then (kv.1, v) else kv) (m.map fun e => if e.1 = c then (e.1, w) else e)
  | [], [], _ => trivial
  | e :: r, f :: m, h => by
    rw [List.map_cons, List.map_cons]
    by_cases hc : f.1 = c
    · rw [if_pos hc, if_pos (by rw [h.1, hc])]
      exact ⟨h.1, hv, DR.map hv h.2.2⟩
    · rw [if_neg hc, if_neg (by rw [h.1]; exact fun z => hc (cK_inj z))]
      exact ⟨h.1, h.2.1, DR.map hv h.2.2⟩
  | [], _ :: _, h => h.elim
  | _ :: _, [], h => h.elim
theorem DR.app {c : Cell} {w : W3} {v : V} (hv : DT H v (wD w)) : ∀ {kvs : List (List Key × V)} {m : DM}, DR H kvs m → DR H (kvs ++ [(cK c, v)]) (m ++ [(c, w)])
  | [], [], _ => ⟨rfl, hv, trivial⟩
  | e :: r, f :: m, h => ⟨h.1, h.2.1, DR.app hv h.2.2⟩
  | [], _ :: _, h => h.elim
  | _ :: _, [], h => h.elim
theorem DR.put {c : Cell} {w : W3} {v : V} {kvs : List (List Key × V)} {m : DM} (h : DR H kvs m) (hv : DT H v (wD w)) : DR H (putK kvs (cK c) v) (dPut m c w) := by
  unfold putK dPut
  rw [h.any c]
  split
  · exact h.map hv
  · exact h.app hv
end
def cellOf (s : StM) (c n : Int) : Cell := (s.x, s.a * c + s.b * n + s.c)
def rdCell (r : RdM) (c n : Int) : Cell := (r.x, (r.a * c + r.b * n + r.c).fdiv r.d)
def stAt (ls : List LpM) (w : W3) : Option StM := (ls[w.1.toNat]?).bind fun l => l.sts[w.2.2.toNat]?
def tks (m : DM) (rs : List RdM) (c n : Int) : List Take := rs.map fun r => (rdCell r c n, dGet m (rdCell r c n))
def lgStep (ls : List LpM) (n : Int) (st : List Ent × DM) (w : W3) : List Ent × DM := match stAt ls w with
  | some s => (st.1 ++ [(w, cellOf s w.2.1 n, tks st.2 s.rds w.2.1 n)], dPut st.2 (cellOf s w.2.1 n) w)
  | none => st
def lg (ls : List LpM) (n : Int) (ws : List W3) : List Ent × DM := ws.foldl (lgStep ls n) ([], [])
/-- where a work of the rows stands -/
theorem works_mem {ls : List LpM} {n : Int} {w : W3} (h : w ∈ works ls n) : ∃ (j k : Nat) (l : LpM) (s : StM), w.1 = (j : Int) ∧ w.2.2 = (k : Int) ∧ ls[j]? = some l ∧ w.2.1 ∈ lpCs l n ∧ l.sts[k]? = some s := by
  unfold works wA at h
  obtain ⟨j, hj, h⟩ := List.mem_flatMap.mp h
  cases hl : ls[j]? with
  | none =>
    rw [hl] at h
    cases h
  | some l =>
    rw [hl] at h
    unfold wC at h
    obtain ⟨c, hc, h⟩ := List.mem_flatMap.mp h
    unfold wS at h
    obtain ⟨k, hk, h⟩ := List.mem_flatMap.mp h
    unfold w1 at h
    cases hs : l.sts[k]? with
    | none =>
      rw [hs] at h
      cases h
    | some s =>
      rw [hs] at h
      dsimp only at h
      split at h
      · rw [List.mem_singleton.mp h]
        exact ⟨j, k, l, s, rfl, rfl, hl, List.mem_of_mem_take hc, hs⟩
      · cases h
theorem stAt_of {ls : List LpM} {w : W3} {j k : Nat} {l : LpM} {s : StM} (h1 : w.1 = (j : Int)) (h2 : w.2.2 = (k : Int)) (hl : ls[j]? = some l) (hs : l.sts[k]? = some s) : stAt ls w = some s := by
  unfold stAt
  rw [h1, h2, Int.toNat_natCast, Int.toNat_natCast, hl]
  exact hs
theorem works_len {ls : List LpM} {n : Int} (ok : ∀ l ∈ ls, LpOk l) (l3 : ls.length ≤ 3) (n0 : 0 ≤ n) (n8 : n ≤ 8) : (works ls n).length ≤ 540 := by
  have h := wA_len (m := ls.length) ok n0 n8
  unfold works
  omega
theorem dt_w {H : Hp} {v : V} {w : W3} (h : DT H v (wD w)) : ∃ t, v = .ref t ∧ H t = some (.tup [.int w.1, .int w.2.1, .int w.2.2]) := dt3' h
theorem atI_last {xs : List V} {x : V} : atI (xs ++ [x]) (-1) = some x := by
  have e : ixN (xs ++ [x]).length (-1) = some xs.length := by
    unfold ixN
    rw [List.length_append, List.length_singleton]
    split
    · omega
    · split
      · congr 1
        omega
      · omega
  unfold atI
  rw [e]
  simp
theorem pg_tupK {X : Cx} {K : PySem.W.Frag} {es : List Expr} {k : Nat} {pos : Pos} {t : TGs} {n : Nat} (hK : X.K = K) (hc : X.calm = true) (h : PGs X es t)
    (hn : (assignEach es X.env).length = n := by rfl) (hst : (assignEach es X.env).findIdx? (·.1) = none := by rfl) : PG X (.Tuple es k pos) (gTup K n t) := hK ▸ pg_tup hc h hn hst
theorem _root_.L2.DGet.r {H : Hp} {a b : Addr} {kvs : List (List Key × V)} {k : List Key} (e : Rd H a (.dT kvs)) (eb : H b = some (.tup (k.map kV))) : DGet H a (.ref b) (valV kvs k) := .inr ⟨kvs, k, b, e, rfl, eb, rfl⟩
theorem dt_c {H : Hp} {v : V} {c : Cell} (h : DT H v (cD c)) : ∃ t, v = .ref t ∧ H t = some (.tup [.str c.1, .int c.2]) := by
  cases h with
  | tup e r =>
    cases r with
    | cons r1 r =>
      cases r with
      | cons r2 r =>
        cases r
        cases r1
        cases r2
        exact ⟨_, rfl, e⟩
theorem rd_lock {H : Hp} {L a : Addr} {u x : HO} {od : Obj} (hL : H L = some u) (hu : Mut (some u)) (h : Rd H a x) : Rd (upd H L (.frz od u)) a x := by
  by_cases e : a = L
  · subst e
    rcases h with h | ⟨o, h⟩
    · rw [hL] at h
      cases h
      exact .inr ⟨od, upd_same⟩
    · rw [hL] at h
      cases h
      exact False.elim hu
  · rcases h with h | ⟨o, h⟩
    · exact .inl (by rw [upd_ne e]; exact h)
    · exact .inr ⟨o, by rw [upd_ne e]; exact h⟩
end K28
set_option maxHeartbeats 4000000
namespace K28
open PySem PySem.Spec PyProof.Rows L2 Z
/-- a number, or something else of a plain kind -/
inductive IntV (H : Hp) : V → Bool → Prop where
  | int (i : Int) : IntV H (.int i) true
  | bl (b : Bool) : IntV H (.bl b) false
  | str (x : Str) : IntV H (.str x) false
  | non : IntV H .non false
  | tup {t : Addr} {xs : List V} (h : H t = some (.tup xs)) : IntV H (.ref t) false
def spIsIntA : Sp := fun vs H Q _ => ∃ (v : V) (b : Bool), vs = [v] ∧ IntV H v b ∧ Q (.bl b) H
def spIntFromA : Sp := fun vs H Q _ => ∃ (v : V) (lo hi : Int), vs = [v, .int lo, .int hi] ∧ ((∃ i : Int, v = .int i ∧ Q (.bl (decide (lo ≤ i ∧ i ≤ hi))) H) ∨ (IntV H v false ∧ Q (.bl false) H))
def TOP : Int := 1000000000000000000000000000000
def spIsSize : Sp := fun vs H Q _ => ∃ v : V, vs = [v] ∧ ((∃ i : Int, v = .int i ∧ Q (.bl (decide (0 ≤ i ∧ i ≤ TOP))) H) ∨ (IntV H v false ∧ Q (.bl false) H))
/-- how many turns in all -/
def tot (ls : List LpM) (n : Int) : Int := (ls.map fun l => lpN l n).sum
/-- an own error, its fields in order, is raised; all else as it was -/
def RzV (K : PySem.W.Frag) (x : Str) (fs : List Str) (vs : List V) (H : Hp) (E : XK) : Prop := ∀ (d : Addr) (H' : Hp), Same H H' → H' d = some (.xd (fs.zip vs).reverse) → E (.ref (He.ga K x)) (some d) H'
theorem RzV.same {K : PySem.W.Frag} {x : Str} {fs : List Str} {vs : List V} {H H1 : Hp} {E : XK} (h : RzV K x fs vs H E) (s : Same H H1) : RzV K x fs vs H1 E := fun d H' s' hd => h d H' (s.trans s') hd
def spCkRun (K : PySem.W.Frag) : Sp := fun vs H Q E => ∃ (v nv : V) (ls : List LpM), vs = [v, nv] ∧ PrOb K H v ls ∧ ls.length ≤ 3 ∧ (∀ l ∈ ls, LpOk l) ∧
  ((IntV H nv false ∧ RzV K "BadSize" ["n"] [nv] H E) ∨ ∃ n : Int, nv = .int n ∧ (¬ (0 ≤ n ∧ n ≤ TOP) → RzV K "BadSize" ["n"] [.int n] H E) ∧
    (0 ≤ n ∧ n ≤ TOP → (20000 < tot ls n → RzV K "TooLong" ["many"] [.int (tot ls n)] H E) ∧ (tot ls n ≤ 20000 → ∀ H', Same H H' → Q .non H')))
def spStmOf (K : PySem.W.Frag) : Sp := fun vs H Q _ => ∃ (v : V) (ls : List LpM) (tw : Addr) (w : W3) (j k : Nat) (l : LpM) (s : StM), vs = [v, .ref tw] ∧ PrOb K H v ls ∧ H tw = some (.tup [.int w.1, .int w.2.1, .int w.2.2]) ∧
  w.1 = (j : Int) ∧ w.2.2 = (k : Int) ∧ ls[j]? = some l ∧ l.sts[k]? = some s ∧ ∀ v', StOb K H v' s → Q v' H
theorem kbi {K : PySem.W.Frag} : PySem.W.kitOne K (.type "bool") (.type "int") = some true := kit_ty (by decide +kernel)
theorem kbb {K : PySem.W.Frag} : PySem.W.kitOne K (.type "bool") (.type "bool") = some true := kit_ty (by decide +kernel)
theorem ksi {K : PySem.W.Frag} : PySem.W.kitOne K (.type "str") (.type "int") = some false := kit_ty (by decide +kernel)
theorem kni {K : PySem.W.Frag} : PySem.W.kitOne K (.type "NoneType") (.type "int") = some false := kit_ty (by decide +kernel)
theorem kti {K : PySem.W.Frag} : PySem.W.kitOne K (.type "tuple") (.type "int") = some false := kit_ty (by decide +kernel)
/-- the error classes of runs -/
structure RunE (P : Program) (w : World) (K : PySem.W.Frag) (mg : Str → Option Value) (base : Heap) : Prop where
  z : Mx P w K mg base "BadSize" ["self", "n"] ["n"]
  l : Mx P w K mg base "TooLong" ["self", "many"] ["many"]
section
variable {P : Program} {w : World} {K : PySem.W.Frag} {mg : Str → Option Value} {base : Heap}
theorem ok_isIntA {f : Addr} {fd : FuncData} (F : FnP K "is_integer" s_is_integer f fd) (T : StTx K mg) : FnOk P w K mg base CX0 1 f fd ["value"] spIsIntA := by
  refine F.ok sc_is_integer (fun vs H Q E h => ?_) (fun cdv A outer s H vs Q E hr h => ?_)
  · obtain ⟨v, b, rfl, _⟩ := h
    rfl
  · obtain ⟨v, b, rfl, h, q⟩ := h
    refine ⟨_, PSs.nox (pss_one (ps_ret (pe_and (pe_callB call_isi (by rfl) T.isi (by decide +kernel) (pa_cons (pv 0) (pa_cons (pe_bltn (v := .ty "int") (by rfl) T.int (by decide +kernel) rfl) pa_nil))) (pe_one (pe_not (pe_callB call_isi (by rfl) T.isi (by decide +kernel) (pa_cons (pv 0) (pa_cons (pe_bltn (v := .ty "bool") (by rfl) T.bool (by decide +kernel) rfl) pa_nil)))))))), ?_⟩
    cases h with
    | int i =>
      refine ⟨_, rfl, _, _, _, _, _, rfl, .ty _, .base (.int i), kii, _, rfl, iteT ?_⟩
      exact ⟨_, rfl, _, _, _, _, _, rfl, .ty _, .base (.int i), kib, _, rfl, q⟩
    | bl b =>
      refine ⟨_, rfl, _, _, _, _, _, rfl, .ty _, .base (.bl b), kbi, _, rfl, iteT ?_⟩
      exact ⟨_, rfl, _, _, _, _, _, rfl, .ty _, .base (.bl b), kbb, _, rfl, q⟩
    | str x => exact ⟨_, rfl, _, _, _, _, _, rfl, .ty _, .base (.str x), ksi, _, rfl, iteF q⟩
    | non => exact ⟨_, rfl, _, _, _, _, _, rfl, .ty _, .base .non, kni, _, rfl, iteF q⟩
    | tup ht => exact ⟨_, rfl, _, _, _, _, _, rfl, .ty _, .base (.tup ht), kti, _, rfl, iteF q⟩
theorem ok_intFromA {f : Addr} {fd : FuncData} (F : FnP K "is_integer_from" s_is_integer_from f fd) (dIsInt : Dn P w K mg base 1 "is_integer" ["value"] spIsIntA) : FnOk P w K mg base CX0 2 f fd ["value", "low", "high"] spIntFromA := by
  refine F.ok sc_is_integer_from (fun vs H Q E h => ?_) (fun cdv A outer s H vs Q E hr h => ?_)
  · obtain ⟨v, lo, hi, rfl, _⟩ := h
    rfl
  · obtain ⟨v, lo, hi, rfl, k⟩ := h
    refine ⟨_, PSs.nox (pss_one (ps_ret (pe_and (pe_dn dIsInt hr (pa_cons (pv 0) pa_nil)) (pe_one (pe_chain op_le op_le (pv 1) (pv 0) (pv 2)))))), ?_⟩
    rcases k with ⟨i, rfl, k⟩ | ⟨iv, k⟩
    · refine ⟨_, rfl, _, _, rfl, .int _, _, rfl, iteT ?_⟩
      refine ⟨_, rfl, _, rfl, _, _, rfl, rfl, _, rfl, ite2 (fun h => ?_) (fun h => ?_)⟩
      · have h1 : lo ≤ i := of_decide_eq_true h
        refine ⟨_, rfl, _, _, rfl, rfl, ?_⟩
        rw [show decide (lo ≤ i ∧ i ≤ hi) = decide (i ≤ hi) from decide_eq_decide.mpr ⟨fun z => z.2, fun z => ⟨h1, z⟩⟩] at k
        exact k
      · have h1 : ¬ lo ≤ i := fun z => h (decide_eq_true z)
        rw [decide_eq_false (fun z => h1 z.1)] at k
        exact k
    · exact ⟨_, rfl, _, _, rfl, iv, _, rfl, iteF k⟩
theorem sc_is_size : FnScope ["value"] ["value"] (defScope s_is_size) := ⟨rfl, rfl, rfl, by decide +kernel, rfl, by decide +kernel, by decide +kernel⟩
theorem ok_isSize {f : Addr} {fd : FuncData} (F : FnP K "is_size" s_is_size f fd) (T : LwTx K mg) (hTOP_SIZE : ∃ t, mg "TOP_SIZE" = some (.int TOP t)) (dIsIntFrom : Dn P w K mg base 2 "is_integer_from" ["value", "low", "high"] spIntFromA) : FnOk P w K mg base CX0 3 f fd ["value"] spIsSize := by
  refine F.ok sc_is_size (fun vs H Q E h => ?_) (fun cdv A outer s H vs Q E hr h => ?_)
  · obtain ⟨v, rfl, _⟩ := h
    rfl
  · obtain ⟨v, rfl, k⟩ := h
    obtain ⟨tTOP_SIZE, hTOP_SIZE⟩ := hTOP_SIZE
    refine ⟨_, PSs.nox (pss_one (ps_ret (pe_dn dIsIntFrom hr (pa_cons (pv 0) (pa_cons pe_int (pa_cons (pe_glob (v := .int 1000000000000000000000000000000) rfl hTOP_SIZE ⟨tTOP_SIZE, rfl⟩) pa_nil)))))), ?_⟩
    exact ⟨_, rfl, _, _, _, rfl, k⟩
theorem sc_check_run : FnScope ["program", "n", "many", "loop"] ["program", "n"] (defScope s_check_run) := ⟨rfl, rfl, rfl, by decide +kernel, rfl, by decide +kernel, by decide +kernel⟩
theorem ok_ckRun {f : Addr} {fd : FuncData} (F : FnP K "check_run" s_check_run f fd) (T : LwTx K mg) (hMOST_TURNS : ∃ t, mg "MOST_TURNS" = some (.int 20000 t)) (RE : RunE P w K mg base) (L : LM P w K mg base) (dIsSize : Dn P w K mg base 3 "is_size" ["value"] spIsSize) :
    FnOk P w K mg base (L2.CX P w) 5 f fd ["program", "n"] (spCkRun K) := by
  refine F.ok sc_check_run (fun vs H Q E h => ?_) (fun cdv A outer s H vs Q E hr h => ?_)
  · obtain ⟨v, nv, ls, rfl, _⟩ := h
    rfl
  · obtain ⟨v, nv, ls, rfl, ⟨p, xs, ys, rfl, ⟨dx, lt, at_, dk, hp, hlt, hat⟩, fa⟩, l3, ok, k⟩ := h
    obtain ⟨tMOST_TURNS, hMOST_TURNS⟩ := hMOST_TURNS
    obtain ⟨fdm, Fm, hbm, cm⟩ := L.mt
    have MZ := RE.z
    have ML := RE.l
    refine ⟨_, (pss_cons (ps_if (pt_not (pt_val (pe_dn dIsSize hr (pa_cons (pv 1) pa_nil)))) (pss_one (ps_raise rfl (takes_of rfl rfl rfl rfl) (pmk_err MZ hr (pa_cons (pv 1) pa_nil)))) pss_nil)
      (pss_cons (ps_set (i := 2) sc_check_run.nd rfl (Or.inl rfl) (pe_callB (cr_sum rfl) (by rfl) T.sum (by decide +kernel) (pa_cons (pe_lc (own := [("loop", 3)]) (g := gName 3) (tt := tYes) rfl sc_check_run.nd (pi_tup (pe_fld (pv 0) rfl)) (blkOk_by (N := ["program", "n", "many", "loop"]) (sc := defScope s_check_run) (by decide +kernel)) (fun _ _ _ _ _ => (pg_name (i := 3) sc_check_run.nd rfl (.inl rfl))) (fun _ _ _ _ _ => pts_nil) (fun _ _ _ _ _ => (pe_meth (pv 3) T.clL cm Fm (hr.mono (by decide)) hbm .nil pass0 (pa_cons (pv 1) pa_nil)))) pa_nil)))
      (pss_one (ps_if (pt_cmpR op_gt (pv 2) (pe_glob (v := .int 20000) rfl hMOST_TURNS ⟨tMOST_TURNS, rfl⟩) (nomark _)) (pss_one (ps_raise rfl (takes_of rfl rfl rfl rfl) (pmk_err ML hr (pa_cons (pv 2) pa_nil)))) pss_nil)))), ?_⟩
    have bad : ∀ nv : V, RzV K "BadSize" ["n"] [nv] H E → _ := fun nv z => err_go (K := K) (x := "BadSize") (fs := ["n"]) (vs := [nv]) (H1 := H) (Q := E) (by show 1 ≤ 1000; decide) rfl z
    rcases k with ⟨iv, k⟩ | ⟨n, rfl, k1, k2⟩
    · exact ⟨_, rfl, _, rfl, .inr ⟨iv, _, rfl, iteT ⟨_, rfl, bad _ k⟩⟩⟩
    · refine ⟨_, rfl, _, rfl, .inl ⟨n, rfl, _, rfl, ?_⟩⟩
      by_cases hn : 0 ≤ n ∧ n ≤ TOP
      · rw [decide_eq_true hn]
        obtain ⟨k2, k3⟩ := k2 hn
        refine iteF ?_
        refine ⟨_, rfl, p, _, dx, _, _, rfl, hp, T.clP, T.nPL, prf_l _ _ _, lt, rfl, ⟨_, hlt⟩, fun D hD => ?_⟩
        refine lc_tup (K := K) (xs := xs) (fun j Hc => Hc D = some (.lst (((ls.take j).map fun l => lpN l n).map V.int)) ∧ Same H Hc) ⟨upd_same, Same.new _ (Same.refl H) hD⟩ (fun j Hc _ z => SqT.same hlt z.2) ?_ ?_
        · rintro j v Hc hv ⟨eD, sc⟩
          obtain ⟨l, el, ob⟩ := (fa.imp fun _ _ z => z.same sc).at hv
          have okl := ok l (List.mem_of_getElem? el)
          refine ⟨rfl, yes_of ?_⟩
          obtain ⟨pl, dl, lo, hi, st, rfl, hpl⟩ := ob.ref
          refine ⟨_, rfl, pl, dl, _, rfl, hpl, no_mt _ _ _ _ _, _, rfl, _, l, n, rfl, ob, okl, _, eD, sz1l _ (by
            rw [List.length_map, List.length_map, List.length_take]
            omega), ?_, fun b o e => ?_⟩
          · rw [upd_same, List.take_add_one, el, List.map_append, List.map_append]
            rfl
          · rw [upd_ne (ne_of_none e hD)]
            exact sc b o e
        · rintro Hc ⟨eD, sc⟩
          have lcs : xs.length = ls.length := fa.1
          rw [lcs, List.take_length] at eD
          refine ⟨D, _, rfl, SqL.of eD, ?_⟩
          refine normG (σ' := [some (.ref p), some (.int n), some (.int (tot ls n)), none]) rfl ?_
          refine ⟨_, rfl, _, _, rfl, rfl, _, rfl, ite2 (fun h => ?_) (fun h => ?_)⟩
          · exact ⟨_, rfl, err_go (K := K) (x := "TooLong") (fs := ["many"]) (vs := [.int (tot ls n)]) (H1 := Hc) (Q := E) (by show 1 ≤ 1000; decide) rfl ((k2 (of_decide_eq_true h)).same sc)⟩
          · exact k3 (by
              have : ¬ 20000 < tot ls n := fun z => h (decide_eq_true z)
              omega) _ sc
      · rw [decide_eq_false hn]
        exact iteT ⟨_, rfl, bad _ (k1 hn)⟩
theorem sc_statement_of : FnScope ["program", "work"] ["program", "work"] (defScope s_statement_of) := ⟨rfl, rfl, rfl, by decide +kernel, rfl, by decide +kernel, by decide +kernel⟩
theorem ok_stmOf {f : Addr} {fd : FuncData} (F : FnP K "statement_of" s_statement_of f fd) (T : LwTx K mg) : FnOk P w K mg base CX0 1 f fd ["program", "work"] (spStmOf K) := by
  refine F.ok sc_statement_of (fun vs H Q E h => ?_) (fun cdv A outer s H vs Q E hr h => ?_)
  · obtain ⟨v, ls, tw, w3, j, q, l, s, rfl, _⟩ := h
    rfl
  · obtain ⟨v, ls, tw, w3, j, q, l, s, rfl, ⟨p, xs, ys, rfl, ⟨dx, lt, at_, dk, hp, hlt, hat⟩, fa⟩, htw, hj, hq, hl, hs, k⟩ := h
    refine ⟨_, PSs.nox (pss_one (ps_ret (pe_ix (ix_tupK (K := K) rfl) (pe_fld (pe_ix (ix_tupK (K := K) rfl) (pe_fld (pv 0) rfl) (pe_ix (ix_tupK (K := K) rfl) (pv 1) pe_int (fun _ _ => rfl)) (fun _ _ => rfl)) rfl) (pe_ix (ix_tupK (K := K) rfl) (pv 1) pe_int (fun _ _ => rfl)) (fun _ _ => rfl)))), ?_⟩
    obtain ⟨vl, hvl, ob⟩ := fa.at' hl
    obtain ⟨pl, tl, ul, ss, rfl, ⟨dl, lo, hi, st, hpl, hlo, hhi, hst⟩, _, _, fs⟩ := ob
    obtain ⟨vs', hvs, obs⟩ := fs.at' hs
    exact ⟨_, rfl, p, _, dx, _, _, rfl, hp, T.clP, T.nPL, prf_l _ _ _, _, rfl, tw, _, _, _, rfl, rfl, SqT.of htw, at0, lt, _, _, _, rfl, rfl, hlt, (by rw [hj]; exact atI_nat hvl), pl, _, dl, _, _, rfl, hpl, T.clL, T.nSt, lp_tt _ _ _ _ _, _, rfl, tw, _, _, _, rfl, rfl, SqT.of htw, at2, st, _, _, _, rfl, rfl, hst, (by rw [hq]; exact atI_nat hvs), k _ obs⟩
end
theorem look1 {x : Str} {v : V} {r : List (Str × V)} : ((x, v) :: r).lookup x = some v := by simp [List.lookup_cons]
theorem look2 {v y : V} : ([("number", y), ("what", v)] : List (Str × V)).lookup ("what" : Str) = some v := by
  rw [List.lookup_cons, show ((("what" : Str) == "number") = false) by decide +kernel]
  exact look1
theorem lpN_tot {ls : List LpM} {n : Int} {l : LpM} (h : l ∈ ls) : lpN l n ≤ tot ls n := by
  unfold tot
  induction ls with
  | nil => cases h
  | cons a ls ih =>
    rw [List.map_cons, List.sum_cons]
    have pos : 0 ≤ (ls.map fun l => lpN l n).sum := by
      clear ih h
      induction ls with
      | nil => exact Int.le_refl _
      | cons b ls ih =>
        rw [List.map_cons, List.sum_cons]
        have := lpN_nn (l := b) (n := n)
        omega
    rcases List.mem_cons.mp h with rfl | h
    · omega
    · have := ih h
      have := lpN_nn (l := a) (n := n)
      omega
theorem works_few {ls : List LpM} {n : Int} (ok : ∀ l ∈ ls, LpOk l) (l3 : ls.length ≤ 3) (few : Few ls n) : (works ls n).length ≤ 180000 := by
  have h := wA_few (m := ls.length) ok few
  unfold works
  omega
theorem rd_cell {r : RdM} {H : Hp} {K : PySem.W.Frag} {v : V} (h : RdOb K H v r) (c n : Int) : ∃ p dr q a b e d, v = .ref p ∧ H p = some (.ins (CRd K) dr (rdf r.x q r.f)) ∧ PlcAt K H q a b e d ∧ Sm a ∧ Sm b ∧ 0 < d ∧ d < 1073741824 ∧ (a * c + b * n + e).fdiv d = (rdCell r c n).2 := by
  obtain ⟨p, a, b, e, d, rfl, ⟨dr, q, h1, h2⟩, a0, a1, b0, b1, d0, d1, k⟩ := h
  exact ⟨p, dr, q, a, b, e, d, rfl, h1, h2, sm_of (by omega) (by omega), sm_of (by omega) (by omega), by omega, by omega, k c n⟩
end K28
set_option maxHeartbeats 6400000
namespace Z
open PySem PySem.Spec PyProof.Rows L2
section
variable {P : Program} {w : World} {A : Around} {E : Value → Shared → Prop} {s : Shared}
/-- set(xs), xs a list of ints -/
theorem si_call {l : Addr} {items : Array Value} (ns : List Int) {Q : Value → Shared → Prop} (hh : A.handled = none) (hl : s.heap.IsList l items) (hi : IntsAre items.toList ns) (few : ns.length + 1 < scanBound)
    (k : ∀ (h' : Heap) (tk c : Nat), SetR w h' s.heap.objs.size (fun j => decide (j ∈ ns)) c → c ≤ ns.length → (∀ b o, s.heap.get? b = some o → h'.get? b = some o) → Q (.ref s.heap.objs.size) { s with heap := h', toks := tk }) :
    wpAny (model P w) A (call (.type "set") [.ref l]) Q E s := by
  have hz : items.size = ns.length := by
    have q := IntsAre.length hi
    rw [Array.length_toList] at q
    exact q
  obtain ⟨c, tl, hmro⟩ := F.called_set.mro
  have hmade := F.called_set.made
  have hsub := F.called_set.sub
  refine wpAny_call (codeAny_of_tree ?_)
  show wpAny _ _ (callAny (.type "set") _) _ _ _
  refine wpAny_pure ⟨Code.quiet_builtin _ (by decide +kernel), codeAny_builtin F.entry_type_call ?_⟩
  rw [Around.under_plain (weight_type_call_type "set" [.ref l] []) rfl]
  have h1 := F.called_set.notType
  have h2 := F.called_set.canCreate
  have hct := F.typeCall_set_1 (.ref l)
  repeat (any_goals (first | assumption | wp_step))
  obtain ⟨H0, eH0⟩ : ∃ H0 : Heap, H0 = s.heap.push { cls := .type "set", dict := none, data := .set #[] 0 (.fresh 0 0 (!w.params.followText "set-order")) } := ⟨_, rfl⟩
  refine codeAny_mono (code_set_led1 (.ref l) (E := E) (Q₁ := fun obj s₁ => obj = .ref s.heap.objs.size ∧ s₁ = { s with heap := H0 }) ⟨rfl, by rw [eH0]⟩) fun r s₁ hr => ?_
  have g0 : H0.get? s.heap.objs.size = some { cls := .type "set", dict := none, data := .set #[] 0 (.fresh 0 0 (!w.params.followText "set-order")) } := eH0 ▸ Heap.get?_push_size _ rfl
  have z0 : H0.objs.size = s.heap.objs.size + 1 := by rw [eH0, Heap.size_push]
  have k0 : ∀ b o, s.heap.get? b = some o → H0.get? b = some o := fun b o e => eH0 ▸ Heap.get?_push_of_some _ e
  cases r with
  | error e => exact hr
  | ok fl =>
    cases fl with
    | ret obj =>
      obtain ⟨rfl, rfl⟩ := hr
      have hT : Shared.TypeIs { s with heap := H0 } (.ref s.heap.objs.size) "set" := ⟨_, g0, rfl⟩
      have hli := F.called_set.init.lookup
      have hbi := F.called_set.init.bind (.ref s.heap.objs.size)
      repeat (any_goals (first | assumption | wp_step))
      refine codeAny_mono (codeAny_call_builtin (R := wants (fun r s₂ => r = .none ∧ ∃ h' tk c, s₂ = { s with heap := h', toks := tk } ∧ (SetR w h' s.heap.objs.size (fun j => decide (j ∈ ns)) c ∧ c ≤ ns.length) ∧ ∀ b o, s.heap.get? b = some o → h'.get? b = some o) E)
        F.called_set.init.plain F.entry_set_init (check_set_init_1 hT ?_)) fun r₂ s₂ hr₂ => ?_
      · obtain ⟨⟨ocls, odict, odata, oslots⟩, hol, hcl, nl, hdl⟩ := hl
        simp only at hcl hdl
        subst hcl hdl
        have hol' : H0.get? l = some { cls := .type "list", dict := odict, data := .seq items nl, slots := oslots } := k0 _ _ hol
        have hsls := F.sub_list_set
        have hslf := F.sub_list_frozenset
        have hne : (Value.type "list" == Value.type "dict") = false := by decide
        have hl1 : H0.IsList l items := ⟨_, hol', rfl, nl, rfl⟩
        unfold Builtin.«set.__init__» noKeywords Builtin.Frozenset.updateFrom
        generalize hPI : pyIter = PI
        wp_walk
        subst hPI
        refine wpAny_pyIter_list hl1 (wpAny_bind (wpAny_runValue ?_))
        have lt : l < s.heap.objs.size := Heap.lt_size hol
        have hne : l ≠ H0.objs.size := by rw [z0]; exact Nat.ne_of_lt (Nat.lt_succ_of_lt lt)
        have hno : s.heap.objs.size ∉ [H0.objs.size, l] := by
          simp only [List.mem_cons, List.not_mem_nil, or_false, not_or, z0]
          exact ⟨Nat.ne_of_lt (Nat.lt_succ_self _), Nat.ne_of_gt lt⟩
        have item : ∀ (i : Nat) (v : Value), items[i]? = some v → ∃ k t, ns[i]? = some k ∧ v = .int k t := fun i v hv => by
          have hi2 : i < ns.length := by rw [← hz]; exact (Array.getElem?_eq_some_iff.mp hv).1
          obtain ⟨t, e⟩ := PyProof.Rows.IntsAre.int_at hi i v (by rw [Array.getElem?_toList]; exact hv)
          exact ⟨ns[i], t, List.getElem?_eq_getElem hi2, by rw [e, List.getD_eq_getElem?_getD, List.getElem?_eq_getElem hi2] <;> rfl⟩
        refine set_update_ints ((Walks.list (by simp [hh]) _ l hne items).toS) s.heap.objs.size hno ns hz few item (items.size - 0) 0 _ (by omega) (Nat.zero_le _) ⟨⟨_, Heap.get?_push_size _ rfl, rfl, rfl⟩, (hl1.push _)⟩ ⟨0, Nat.le_refl 0, setR_new_at (Heap.get?_push_of_some _ g0)⟩ ?_
        intro s' c' hm hc' hs'
        obtain ⟨h', g', d', tk', os'⟩ := s'
        have eg : g' = s.gens := hm.gens
        have ed : d' = s.drawn := hm.drawn
        have eo : os' = s.os := hm.os
        subst eg ed eo
        refine wpAny_pure (wpAny_pure (M := model P w) ⟨rfl, h', tk', c', rfl, ⟨hs', hz ▸ hc'⟩, fun b o e => ?_⟩)
        have lb : b < s.heap.objs.size := Heap.lt_size e
        refine hm.heap b o ?_ (Heap.get?_push_of_some _ (k0 _ _ e))
        simp only [List.mem_cons, List.not_mem_nil, or_false, not_or]
        exact ⟨Nat.ne_of_lt lb, by rw [z0]; exact Nat.ne_of_lt (Nat.lt_succ_of_lt lb)⟩
      · cases r₂ with
        | error e => exact hr₂
        | ok fl₂ =>
          cases fl₂ with
          | ret r =>
            obtain ⟨rfl, h', tk, c', rfl, ⟨hs', hc'⟩, hk'⟩ := hr₂
            repeat (any_goals (first | assumption | wp_step))
            exact k _ _ _ hs' hc' hk'
          | _ => exact hr₂.elim
    | _ => exact hr.elim
/-- sorted(found), any number of members -/
theorem si_sorted {a : Addr} {S : Int → Bool} {n : Nat} {Q : Value → Shared → Prop} (R : SetR w s.heap a S n) (hh : A.handled = none)
    (k : ∀ s' p (out : List Value) (c : Nat) (ys : List Int), (∀ b o, s.heap.get? b = some o → s'.heap.get? b = some o) → s'.gens = s.gens → s'.os = s.os → s.heap.objs.size ≤ p → s'.heap.get? p = some (seqObj "list" out.toArray c) →
      IntsAre out ys → ys.Nodup → (∀ x, x ∈ ys ↔ S x = true) → ys.Pairwise (· ≤ ·) → ys.length = n → Q (.ref p) s') : wpAny (model P w) A (call (.builtin "sorted") [.ref a]) Q E s := by
  obtain ⟨o, es, ep, t, ho, hx, hd, g, nd, hm, hb, hf, hn, hr, hl⟩ := R
  refine Calls.call_function_entry kind_sorted plain_sorted entry_sorted (args_sorted1 _) ?_
  unfold Builtin.«sorted»
  refine wpAny_bind (m := checkCount "sorted" 1 1 _) (wpAny_pure ?_)
  refine wpAny_bind (collect_set (A := A.in1) hh ⟨o, ho, hx.1, hd⟩ hf hb hr hl fun s1 vs k1 hz g1 o1 pm => ?_)
  have vl : vs.length = es.size := by rw [pm.length_eq, List.length_map, Array.length_toList]
  have hI : IntsAre vs (vs.map SrtO.iv) := SrtO.ints_iv fun v hv => by
    obtain ⟨e, he, q⟩ := List.mem_map.mp (pm.mem_iff.mp hv)
    obtain ⟨k, u, h1, _⟩ := g e he
    exact ⟨k, u, by rw [← q]; exact h1⟩
  have pk : (vs.map SrtO.iv).Perm (es.toList.map keyOf) := by
    have q := pm.map SrtO.iv
    rw [List.map_map] at q
    have e : es.toList.map (SrtO.iv ∘ fun x => x.2) = es.toList.map keyOf := List.map_congr_left fun e he => by
      obtain ⟨k, u, h1, _⟩ := g e he
      obtain ⟨e1, e2⟩ := e
      have h1 : e2 = Value.int k u := h1
      subst h1
      rfl
    rw [← e]
    exact q
  have few : vs.length ≤ sizeLine := by
    rw [vl]
    exact fits_of_scanBound hb
  refine wpAny_bind (wpAny_newList ?_ few)
  have hoL : (s1.heap.push (seqObj "list" vs.toArray 0)).get? s1.heap.objs.size = some (seqObj "list" vs.toArray 0) := Heap.get?_push_size _ rfl
  refine wpAny_bind (wpAny_holding (wpAny_call_entry slot_list_sort ⟨_, hoL, rfl⟩ entry_list_sort
    (SrtO.list_sort_ord SrtO.swo_int hoL few (fun h2 => SrtO.ints_sortable hI h2) fun out h1 h2 => ⟨_, rfl, ?_⟩) (args_list_sort _)))
  obtain ⟨a1, a2, a3⟩ := SrtO.ints_out hI h1 h2
  obtain ⟨c, hc⟩ := sortedHeap_at (vs := vs) (out := out.toArray) hoL
  have pn : (out.map SrtO.iv).Perm (es.toList.map keyOf) := a2.trans pk
  refine wpAny_pure ⟨_, rfl, k _ s1.heap.objs.size out c _ (fun b u e => ?_) g1 o1 hz hc a1 (pn.nodup_iff.mpr nd) (fun x => by rw [pn.mem_iff, ← hm x]) a3 ?_⟩
  · have q := k1 b u e
    have hlt := Heap.lt_size q
    show (sortedHeap (s1.heap.push (seqObj "list" vs.toArray 0)) s1.heap.objs.size vs _).get? b = some u
    rw [sortedHeap_old (Nat.ne_of_lt hlt) (by rw [Heap.size_push]; exact Nat.lt_succ_of_lt hlt)]
    exact Heap.get?_push_of_some _ q
  · rw [pn.length_eq, List.length_map, Array.length_toList]
    exact hn
end
section
variable {X : Cx}
/-- set(xs), xs a list of ints -/
def rSetI (K : PySem.W.Frag) (w : World) : List V → Hp → VK → Prop := fun vs H Q => ∃ (l : Addr) (ns : List Int), vs = [V.ref l] ∧ SqL K H l (ns.map V.int) ∧ ns.length + 1 < scanBound ∧ ∀ a c, H a = none → c ≤ ns.length → Q (.ref a) (upd H a (SetO w a (fun j => decide (j ∈ ns)) c))
theorem cr_setI (hc : X.calm = true) : CallR X (.type "set") (rSetI X.K X.w) := by
  intro pins s σ H vs us Q I r h
  obtain ⟨l, ns, rfl, hl, few, q⟩ := h
  rw [Vals.ref1 r]
  obtain ⟨its, rv, pl, hz⟩ := I.list hl
  have hn : H s.heap.objs.size = none := I.hok.fresh (Nat.le_refl _)
  exact si_call (P := X.prog) (w := X.w) ns (I.ok.hd hc) pl.isList (by simpa using rv.ints) few fun h' tk c R hcc k =>
    ⟨.ref s.heap.objs.size, upd H s.heap.objs.size (SetO X.w s.heap.objs.size (fun j => decide (j ∈ ns)) c), I.laid (t' := tk) k (Nat.le_refl _) (setO_new R), rfl, q _ c hn hcc⟩
/-- sorted(found) of a set of ints -/
def rSortedSA (w : World) : List V → Hp → VK → Prop := fun vs H Q => ∃ (a : Addr) (S : Int → Bool) (n : Nat), vs = [V.ref a] ∧ H a = some (SetO w a S n) ∧ n ≤ 100000 ∧
  ∀ (ys : List Int) (p : Addr), ys.Nodup → (∀ x, x ∈ ys ↔ S x = true) → ys.Pairwise (· ≤ ·) → ys.length = n → H p = none → Q (.ref p) (upd H p (.lst (ys.map V.int)))
theorem cr_sortedSA (hc : X.calm = true) : CallR X (.builtin "sorted") (rSortedSA X.w) := by
  intro pins s σ H vs us Q I r h
  obtain ⟨a, S, n, rfl, ha, few, q⟩ := h
  have R := setO_get I ha
  rw [Vals.ref1 r]
  refine si_sorted (P := X.prog) R (I.ok.hd hc) fun s' p out c ys k g o hp hg hi nd mem srt len => ?_
  have hlen : (ys.map V.int).length ≤ sizeLine := by
    rw [List.length_map, sizeLine_eq, len]
    omega
  have hn : H p = none := I.hok.fresh hp
  have J : Inv X pins σ (upd H p (.lst (ys.map V.int))) { s with heap := s'.heap, gens := s'.gens, drawn := s'.drawn, toks := s'.toks } :=
    I.call (ch := []) (Un.laid k hp hn) (I.hok.laid k hp ⟨hlen, out, c, vals_of_ints hi, hg⟩) (by rw [g]; exact I.bare) (fun _ z => nomatch z)
  have e : s' = { s with heap := s'.heap, gens := s'.gens, drawn := s'.drawn, toks := s'.toks } := by
    cases s'
    cases s
    cases o
    rfl
  rw [e]
  exact ⟨.ref p, _, J, rfl, q ys p nd mem srt len hn⟩
/-- sorted(d), d a dict whose keys are ints, any number of them -/
theorem cr_sortedDA (hcalm : X.calm = true) : CallR X (.builtin "sorted") (fun xs H Q => ∃ (a : Addr) (kvs : List (Key × V)) (ks : List Int), xs = [.ref a] ∧ Rd H a (.dK kvs) ∧ kvs.map (·.1) = ks.map Sum.inl ∧
    ∀ (ys : List Int) (p : Addr), ys.Perm ks → ys.Pairwise (· ≤ ·) → H p = none → Q (.ref p) (upd H p (.lst (ys.map V.int)))) := by
  intro pins s σ H xs us Q I r q
  obtain ⟨a, kvs, ks, ex, hd, hks, q⟩ := q
  subst ex
  obtain ⟨u, eu, rx⟩ := vals1 r
  subst eu
  cases rx
  obtain ⟨z, lo, vs, rel, dd⟩ := dk_rd I.hok hd
  obtain ⟨ep, hat⟩ := dd.dictAt
  have hkeys : vs.map (·.1) = ks.map Sum.inl := rel.keys.symm.trans hks
  have hl : vs.length = ks.length := by
    have e := congrArg List.length hkeys
    rw [List.length_map, List.length_map] at e
    exact e
  have h16 : vs.length ≤ sizeLine := by rw [← rel.length]; exact z
  refine Calls.call_function_entry PyProof.Rows.kind_sorted PyProof.Rows.plain_sorted PyProof.Rows.entry_sorted (PyProof.Rows.args_sorted1 _) ?_
  unfold Builtin.«sorted»
  refine wpAny_bind (m := checkCount "sorted" 1 1 _) (wpAny_pure ?_)
  refine wpAny_bind (PySem.W.kdu_collect (A := X.A.in1) (PySem.W.kdl_dict (knd := mixKind X.prog X.w) (kvs := vs) (ep := ep) lo) (I.ok.hd hcalm) hat h16 fun h' tk acc hk hacc => ?_)
  have hal : acc.toList.length = ks.length := by rw [Array.length_toList, hacc.1, hl]
  have hI : IntsAre acc.toList ks := ints_each hal fun j v e => by
    obtain ⟨k, x, e1, e2⟩ := hacc.2 j v (by rw [← Array.getElem?_toList]; exact e)
    have e3 : (vs.map (·.1))[j]? = some k := by rw [List.getElem?_map, e1]; rfl
    rw [hkeys, List.getElem?_map] at e3
    cases e4 : ks[j]? with
    | none => rw [e4] at e3; cases e3
    | some y =>
      rw [e4] at e3
      have e5 : Sum.inl y = k := Option.some.inj e3
      subst e5
      rcases keyIs_shape (show keyIs (Sum.inl y) v = true from e2) with ⟨i, t, ek, ev⟩ | ⟨z, t, ek, ev⟩
      · cases ek
        exact ⟨y, t, rfl, ev⟩
      · cases ek
  have few : acc.toList.length ≤ sizeLine := by rw [hal, ← hl]; exact h16
  have I1 : Inv X pins σ H { s with heap := h', toks := tk } := I.kept hk
  refine wpAny_bind (wpAny_newList ?_ few)
  have hoL : (h'.push (seqObj "list" acc.toList.toArray 0)).get? h'.objs.size = some (seqObj "list" acc.toList.toArray 0) := Heap.get?_push_size _ rfl
  show wpAny _ _ _ _ _ { s with heap := h'.push (seqObj "list" acc.toList.toArray 0), toks := tk }
  refine wpAny_bind (wpAny_holding (wpAny_call_entry PyProof.Rows.slot_list_sort ⟨_, hoL, rfl⟩ PyProof.Rows.entry_list_sort
    (SrtO.list_sort_ord SrtO.swo_int (s := { s with heap := h'.push (seqObj "list" acc.toList.toArray 0), toks := tk }) hoL few (fun h2 => SrtO.ints_sortable hI h2) fun out h1 h2 => ⟨_, rfl, ?_⟩) (PyProof.Rows.args_list_sort _)))
  obtain ⟨g1, g2, g3⟩ := SrtO.ints_out hI h1 h2
  obtain ⟨e', he'⟩ := PyProof.Rows.sortedHeap_at (vs := acc.toList) (out := out.toArray) hoL
  have hlen : ((out.map SrtO.iv).map V.int).length ≤ sizeLine := by
    rw [List.length_map, g2.length_eq, ← hl]
    exact h16
  refine wpAny_pure ⟨_, rfl, .ref h'.objs.size, upd H h'.objs.size (.lst ((out.map SrtO.iv).map V.int)), I1.laid (t' := tk) (fun b u e => ?_) (Nat.le_refl _)
    (show ObjOk X.prog X.w _ _ _ (.lst ((out.map SrtO.iv).map V.int)) from ⟨hlen, out, e', vals_of_ints g1, he'⟩), rfl, q _ _ g2 g3 (I1.hok.fresh (Nat.le_refl _))⟩
  have hlt := Heap.lt_size e
  show (sortedHeap (h'.push (seqObj "list" acc.toList.toArray 0)) h'.objs.size acc.toList _).get? b = some u
  rw [sortedHeap_old (Nat.ne_of_lt hlt) (by rw [Heap.size_push]; exact Nat.lt_succ_of_lt hlt)]
  exact Heap.get?_push_of_some _ e
def tStarD (te : TE) (t : TA) : TA := fun σ H Q => te σ H fun x H1 => ∃ p kvs, x = V.ref p ∧ Rd H1 p (.dK kvs) ∧ t σ H1 fun ys H2 => Q ((kvs.map fun kv => kV kv.1) ++ ys) H2
theorem star_dict {pins : List (Addr × Obj)} {σ : L2.St} {H : Hp} {s : Shared} {a : Addr} {kvs : List (Key × V)} {E : Value → Shared → Prop} {Q : List Value → Shared → Prop} (hcalm : X.calm = true) (I : Inv X pins σ H s) (h : Rd H a (.dK kvs))
    (hQ : ∀ us s', Inv X pins σ H s' → Vals (kvs.map fun kv => kV kv.1) us → Q us s') : PySem.W.StarOf (model X.prog X.w) X.A E (.ref a) Q s := by
  obtain ⟨z, lo, vs, rel, dd⟩ := dk_rd I.hok h
  obtain ⟨ep, hat⟩ := dd.dictAt
  have hT : s.TypeIs (.ref a) "dict" := dd.typeIs
  have ek : (kvs.map fun kv => kV kv.1) = vs.map fun p => kV p.1 := by
    have e := congrArg (List.map kV) rel.keys
    rw [List.map_map, List.map_map] at e
    exact e
  have zz : wpAny (model X.prog X.w) X.A (collect (.ref a)) Q E s := by
    refine PySem.W.kdu_collect (A := X.A) (PySem.W.kdl_dict (knd := mixKind X.prog X.w) (kvs := vs) (ep := ep) lo) (I.ok.hd hcalm) hat (by rw [← rel.length]; exact z) fun h' tk acc hk hacc => ?_
    refine hQ acc.toList _ (I.kept (t' := tk) hk) ?_
    rw [ek]
    exact keys_at (by rw [Array.length_toList]; exact hacc.1) fun j v e => hacc.2 j v (by rw [← Array.getElem?_toList]; exact e)
  unfold PySem.W.StarOf notIterableAtAll
  exact wpAny_bind (wpAny_specialOf hT PySem.F.slot_dict_iter.lookup (wpAny_pure ⟨rfl, zz⟩))
theorem pa_starD {e : Expr} {es : List Expr} {te : TE} {t : TA} {p : Pos} (hc : X.calm = true) (he : PE X e te) (hr : PA X es t) (hs : starEach (.Starred e p :: es) X.env = (true, eval e X.env) :: starEach es X.env := by rfl) : PA X (.Starred e p :: es) (tStarD te t) := by
  refine ⟨fun pos pins s σ H Q I h => ?_⟩
  refine PySem.W.items_star (thn (he.run pins s σ H _ I h) fun v s1 ⟨y, H1, I1, ry, a, kvs, ey, hx, q⟩ => ?_) hs
  subst ey
  obtain rfl : v = Value.ref a := ry
  refine star_dict hc I1 hx fun us s2 I2 rv => ?_
  exact thn (hr.run pos pins s2 σ H1 _ I2 q) fun ws s3 ⟨vs, H3, I3, r3, q3⟩ => ⟨_, H3, I3, rv.append r3, q3⟩
end
end Z
set_option maxHeartbeats 4000000
namespace Z
open PySem PySem.Spec PyProof.Rows L2
section
variable {X : Cx} {K : PySem.W.Frag} {k : Nat} {f C : Addr} {fd : FuncData} {ps : List Str} {sp : Sp} {o e : Expr} {es : List Expr} {m : Str} {apos pos : Pos} {ta : TE} {t : TA} {pl : Sem Bool} {E : L2.St → XK}
/-- o.m(e, ..), m a method that may raise -/
theorem pe_methX (hK : X.K = K) (hx : ∀ σ, PassesAt (L2.CX X.prog X.w) X σ (E σ)) (he : PE X o ta) (c : Cls K C) (hm : Meth K C m f) (F : FnOk X.prog X.w K X.mg X.base (L2.CX X.prog X.w) k f fd ps sp) (hr : Room k X.A) (hb : Binds K fd ps []) (ha : PA X (e :: es) t)
    (ht : eval (.Call (.Attribute o m apos) (e :: es) [] pos) X.env = (do
      let ov ← eval o X.env
      standAt apos.atName
      let (f, first) ← holding [ov] (getMethod ov m pl)
      callWith pos f first (backTo pos (starEach (e :: es) X.env)) (backToKw pos (keywordEach [] X.env))) := by rfl)
    (hst : starEach (e :: es) X.env = (false, eval e X.env) :: starEach es X.env := by rfl) (hpl : (backTo pos (starEach es X.env)).any (·.1) = false := by rfl) :
    PE X (.Call (.Attribute o m apos) (e :: es) [] pos) (fun σ H Q => ta σ H fun x H1 => ∃ a dx fs, x = .ref a ∧ H1 a = some (.ins C dx fs) ∧ fs.lookup m = none ∧ t σ H1 fun vs H2 => sp (x :: vs) H2 Q (E σ)) := by
  subst hK
  refine ⟨fun pins s σ H Q I h => ?_⟩
  refine PySem.W.methodCall_KW (pl := pl) (thn (he.run pins s σ H _ I h) fun u s1 ⟨x, H1, I1, rx, a, dx, fs, ex, ea, l, q⟩ => ?_) ht
  subst ex
  obtain rfl : u = Value.ref a := rx
  refine getmeth_ok I1 ea c hm l ?_
  refine PySem.W.callWith_K (first := [.ref a]) (h₀ := X.base) I.ok.mod.kin hm.kp (thn (ha.run pos pins s1 σ H1 _ I1 q) fun us s2 ⟨vs, H2, I2, r, q2⟩ => ⟨I2.kIn, ?_⟩) hst hpl
  exact run_fnS (E := E) (us := .ref a :: us) (vs := .ref a :: vs) F hr hb (hx σ) I2 (.cons rfl r) q2
/-- o.m(), m a method that may raise -/
theorem pe_methX0 (hK : X.K = K) (hx : ∀ σ, PassesAt (L2.CX X.prog X.w) X σ (E σ)) (he : PE X o ta) (c : Cls K C) (hm : Meth K C m f) (F : FnOk X.prog X.w K X.mg X.base (L2.CX X.prog X.w) k f fd ps sp) (hr : Room k X.A) (hb : Binds K fd ps [])
    (ht : eval (.Call (.Attribute o m apos) [] [] pos) X.env = (do
      let ov ← eval o X.env
      standAt apos.atName
      let (f, first) ← holding [ov] (getMethod ov m pl)
      callWith pos f first (backTo pos (starEach [] X.env)) (backToKw pos (keywordEach [] X.env))) := by rfl) :
    PE X (.Call (.Attribute o m apos) [] [] pos) (fun σ H Q => ta σ H fun x H1 => ∃ a dx fs, x = .ref a ∧ H1 a = some (.ins C dx fs) ∧ fs.lookup m = none ∧ sp [x] H1 Q (E σ)) := by
  subst hK
  refine ⟨fun pins s σ H Q I h => ?_⟩
  refine PySem.W.methodCall_KW (pl := pl) (thn (he.run pins s σ H _ I h) fun u s1 ⟨x, H1, I1, rx, a, dx, fs, ex, ea, l, q⟩ => ?_) ht
  subst ex
  obtain rfl : u = Value.ref a := rx
  refine getmeth_ok I1 ea c hm l ?_
  exact PySem.W.callWith_K0 (first := [.ref a]) I1.kIn hm.kp (run_fnS (E := E) (us := [.ref a]) (vs := [.ref a]) F hr hb (hx σ) I1 (.cons rfl .nil) q)
end
section
variable {X : Cx} {K : PySem.W.Frag} {mg : Str → Option Value} {k j n : Nat} {x : Str} {p pos : Pos} {e : Expr} {es : List Expr} {kws : List Keyword} {t tk : TA} {sp : Sp} {E : L2.St → XK} {ps ks : List Str} {gV : List V → List V → List V}
/-- a global def that may raise, called with keywords -/
def DxK (P : Program) (w : World) (K : PySem.W.Frag) (mg : Str → Option Value) (base : Heap) (j : Nat) (x : Str) (ps : List Str) (n : Nat) (ks : List Str) (gV : List V → List V → List V) (sp : Sp) : Prop :=
  ∃ (f : Addr) (fd : FuncData) (g : List Value → List Value → List Value), FnOk P w K mg base (L2.CX P w) j f fd ps sp ∧ mg x = some (.ref f) ∧ PySem.W.keepIn K (.ref f) = true ∧ KBn K fd ps n ks g gV
theorem pe_dxK (D : DxK X.prog X.w K X.mg X.base j x ps n ks gV sp) (hK : X.K = K) (hr : Room k X.A) (hx : ∀ σ, PassesAt (L2.CX X.prog X.w) X σ (E σ)) (ha : PA X (e :: es) t) (hkw : PK X kws tk) (hjk : j ≤ k := by decide) (hg : Gl X x := by rfl)
    (hall : (backToKw pos (keywordEach kws X.env)).all (·.1.isSome) = true := by rfl) (hks : (backToKw pos (keywordEach kws X.env)).filterMap (·.1) = ks := by rfl)
    (hdb : (x == ("__debug__" : Str)) = false := by decide) (he : starEach (e :: es) X.env = (false, eval e X.env) :: starEach es X.env := by rfl)
    (hpl : ((backTo pos (starEach (e :: es) X.env)).any (·.1) || (backToKw pos (keywordEach kws X.env)).any (·.1.isNone)) = false := by rfl) :
    PE X (.Call (.Name x p) (e :: es) kws pos) (fun σ H Q => t σ H fun vs H1 => tk σ H1 fun zs H2 => vs.length = n ∧ zs.length = ks.length ∧ sp (gV vs zs) H2 Q (E σ)) := by
  subst hK
  obtain ⟨f, fd, g, F, hm, hk, hb⟩ := D
  refine ⟨fun pins s σ H Q I h => ?_⟩
  refine wpAny_Call_Name_kw (ld_glob I hg hm ?_ hdb)
  refine PySem.W.callWith_KW (h₀ := X.base) I.ok.mod.kin hk hall (thn (ha.run pos pins s σ H _ I h) fun us s1 ⟨vs, H1, I1, r, q⟩ => ?_) hpl he
  refine thn (hkw.run pos pins s1 σ H1 _ I1 q) fun ws s2 ⟨zs, H2, I2, rz, l1, l2, q2⟩ => ⟨I2.kIn, ?_⟩
  rw [hks]
  have r2 := hb.rel r rz
  refine wpAny_call (codeAny_mono (F.run X.A X.stack s2 H2 ⟨us, ks.zip ws⟩ (g us ws) (gV vs zs) Q (E σ) (hr.mono hjk) I2.env0 (hb.to s2 us ws I2.kIn (r.length.symm.trans l1) (rz.length.symm.trans l2)) r2 q2) fun r' s' z => ?_)
  cases r' with
  | error er => exact hx σ pins H2 s2 er s' I2 z
  | ok fl =>
    cases fl with
    | ret u => exact I2.after z
    | next => exact False.elim z
    | brk => exact False.elim z
    | cont => exact False.elim z
end
section
variable {X : Cx} {C : Addr} {bmB : List Value} {B newId initId : String}
/-- X(), an own exception class without own __init__, made to be raised -/
theorem pmk_own0 {x : Str} {p pos : Pos} (F : ExcBaseFacts B newId initId bmB) (q : PySem.W.excIn X.K C bmB newId = true) (gC : X.mg x = some (.ref C)) (kC : PySem.W.keepIn X.K (.ref C) = true) (r : Raises X (.ref C)) (hg : Gl X x)
    (hdb : (x == ("__debug__" : Str)) = false := by decide) : PMk X (.Call (.Name x p) [] [] pos) (fun _ H Q => Q (.ref C) none H) := by
  intro pins s σ H Q I h
  refine wpAny_Call_Name_kw (ld_glob I hg gC ?_ hdb)
  refine PySem.W.callWith_K0 I.kIn kC ?_
  show wpAny _ _ (call (.ref C) []) _ _ _
  obtain ⟨bm, N, nm, qn, bs, hdct, sn, sub, ab, col, dd, k0, k1, k2, k3, k5, mN, hC, hN, hni, T⟩ := exc_obj I.kIn q
  refine wpAny_call_exc_subT F T hC hN hni (fun h' a hm => ?_) (by show 0 ≤ sizeLine; exact Nat.zero_le _)
  exact mk_of I hm r h (I.hok.gone hm.new)
end
section
variable {X : Cx} {K : PySem.W.Frag} {o e : Expr} {es : List Expr} {to : TE} {t : TA} {name : Str} {apos cpos : Pos} {T id : String} {r : V → List V → Hp → VK → Prop}
theorem pe_bmK (hK : X.K = K) (pa : PlainAttrs T) (slot : Slot T name id) (hty : typeOf (.builtin id) = pure (.type "method_descriptor")) (hm : MtR X id r) (ho : PE X o to) (ha : PA X (e :: es) t)
    (hbase : attributeBase o name X.env (eval o X.env) = eval o X.env := by rfl)
    (hfew : ((backTo cpos (starEach (e :: es) X.env)).all (fun x => !x.1) && (backToKw cpos (keywordEach [] X.env)).all (fun x => x.1.isSome)
      && decide ((e :: es).length + ([] : List Keyword).length + (if ([] : List Keyword).isEmpty then 0 else 1) < 30)) = true := by rfl)
    (hline : (apos.endLine == cpos.line) = true := by rfl) (hs : starEach (e :: es) X.env = (false, eval e X.env) :: starEach es X.env := by rfl) (hplain : (backTo cpos (starEach es X.env)).any (·.1) = false := by rfl) :
    PE X (.Call (.Attribute o name apos) (e :: es) [] cpos) (tBM K T r to t) := hK ▸ pe_bm pa slot hty hm ho ha hbase hfew hline hs hplain
end
end Z
set_option maxHeartbeats 4000000
namespace Z
open PySem PySem.Spec PyProof.Rows L2
abbrev ClauseM : Type := Value × Option Nat × (Addr → Value → Option Addr → TS)
/-- what a clause asks of its suite -/
def cAsk (o : Option Nat) (ts : Addr → Value → Option Addr → TS) (a : Addr) (cls : Value) (d : Option Addr) (D : Ends) (σ : L2.St) (H : Hp) : Prop := match o with
  | some i => ts a cls d (bare i D) (σ.set i (some (.ref a))) H
  | none => ts a cls d D σ H
def wMix (K : PySem.W.Frag) (Wout : WX) (D : Ends) : List ClauseM → WX
  | [] => Wout
  | q :: r => fun cls d σ H => ∃ b, PySem.W.exmOne K cls q.1 = some b ∧ (b = true → ∀ a, H a = none → cAsk q.2.1 q.2.2 a cls d D σ H) ∧ (b = false → wMix K Wout D r cls d σ H)
inductive Mix (X : Cx) : List ExceptHandler → List ClauseM → Prop
  | nil : Mix X [] []
  | cons {x n : Str} {c : Value} {i : Nat} {ts : Addr → Value → Option Addr → TS} {b₀ : Stmt} {suite : List Stmt} {np q : Pos} {hds : List ExceptHandler} {l : List ClauseM} (hi : X.N[i]? = some n) (hl : X.env.kindOf n = some .local) (hc : Names X x c)
      (hsu : ∀ (a : Addr) (oe : Obj) (cls : Value) (d : Option Addr) (pn : List (Addr × Obj)), Zc cls d oe → (∃ vs, oe.data = .fields vs) → PSs (X.suite a ((a, oe) :: pn)) (b₀ :: suite) (ts a cls d)) (r : Mix X hds l) :
      Mix X (.ExceptHandler (some (.Name x np)) (some n) (b₀ :: suite) q :: hds) ((c, some i, ts) :: l)
  | cons0 {x : Str} {c : Value} {ts : Addr → Value → Option Addr → TS} {b₀ : Stmt} {suite : List Stmt} {np q : Pos} {hds : List ExceptHandler} {l : List ClauseM} (hc : Names X x c)
      (hsu : ∀ (a : Addr) (oe : Obj) (cls : Value) (d : Option Addr) (pn : List (Addr × Obj)), Zc cls d oe → (∃ vs, oe.data = .fields vs) → PSs (X.suite a ((a, oe) :: pn)) (b₀ :: suite) (ts a cls d)) (r : Mix X hds l) :
      Mix X (.ExceptHandler (some (.Name x np)) none (b₀ :: suite) q :: hds) ((c, none, ts) :: l)
section
variable {X : Cx} {body : List Stmt} {h₀ : ExceptHandler} {hds : List ExceptHandler} {l : List ClauseM} {pos : Pos} {tb : WX → TS} {Wout : WX}
theorem ps_try_mix (hs : X.stack = X.env :: X.outer) (hf : X.env.frame = some X.env.locals) (hN : X.N.Nodup) (tk : Takes X Wout)
    (hb : ∀ (W : WX) (pn : List (Addr × Obj)) (xe : Value → Shared → Prop), Takes (X.tr pn xe) W → PassesOwn (model X.prog X.w) X.A X.env xe → PSs (X.tr pn xe) body (tb W))
    (hh : Mix X (h₀ :: hds) l) : PS X (.Try body (h₀ :: hds) [] [] pos) (fun D σ H => tb (wMix X.K Wout D l) D σ H) := by
  refine ⟨fun pins s σ H D I h => ?_⟩
  have ok := I.ok
  have frm : X.A.frames = some (X.env :: X.outer) := ok.frames.trans (congrArg some hs)
  have out : ∀ {f : Flow} {s1 : Shared}, SP (X.tr (X.pn ++ pins) (fun e s₁ => wpAny (model X.prog X.w) X.A (noteFrame e X.env) (fun _ s₂ => wpAny (model X.prog X.w) X.A (setFlight e none) (fun _ s₃ => wpAny (model X.prog X.w) X.A (handleBy e X.env (h₀ :: hds)) (SP X pins D) X.xe s₃) X.xe s₂) X.xe s₁)) [] D f s1 → SP X pins D f s1 := by
    intro f s1 z
    cases f with
    | next => exact z.elim fun σ' z => z.elim fun H' z => ⟨σ', H', z.1.ofTry ok, z.2⟩
    | brk => exact z.elim fun σ' z => z.elim fun H' z => ⟨σ', H', z.1.ofTry ok, z.2⟩
    | cont => exact z.elim fun σ' z => z.elim fun H' z => ⟨σ', H', z.1.ofTry ok, z.2⟩
    | ret u => exact z.elim fun v z => z.elim fun σ' z => z.elim fun H' z => ⟨v, σ', H', z.1.ofTry ok, z.2⟩
  refine wpAny_Try_except (wpAny_mono ((hb (wMix X.K Wout D l) (X.pn ++ pins) _ (fun u s' xx => ?_) PassesOwn.looking).run [] s σ H D (I.toTry _) h) (fun f s1 z => ?_) fun e s1 he => he)
  · obtain ⟨a, B, sI, pins', σ', H', cls, d, rfl, J', nb, up, sky, na, os, ag, w⟩ := xx
    have J : Inv X pins σ' H' sI := J'.ofTry ok
    have sky' : Sky B (X.env :: X.outer) a (Zc cls d) X.env.locals s'.heap := hs ▸ sky
    show wpAny (model X.prog X.w) X.A (noteFrame (.ref a) X.env) _ _ _
    refine Sky.land Zc.steady frm hf sky' fun h3 fl3 up3 => ?_
    have up13 := up.trans up3
    obtain ⟨oe3, vs3, he3, hz3, hd3⟩ := fl3.there
    have J3 : Inv X pins σ' H' { s' with heap := h3 } := J.landed nb fl3.1 up13 os ag
    have far : a ∉ frs (X.env :: X.outer) := fun hm => (fl3.2.2.1.mem hm).elim fun _ z => z.elim fun o' z => by
      have e' := z.1
      rw [he3] at e'
      exact z.2 _ (Option.some.inj e' ▸ hd3)
    have nL : a ≠ X.env.locals := fun z => far (List.mem_filterMap.mpr ⟨X.env, .head _, by rw [hf, z]⟩)
    have nF : a ∉ X.fs := fun hm => (List.mem_filterMap.mp hm).elim fun e z => far (List.mem_filterMap.mpr ⟨e, .tail _ z.1, z.2⟩)
    have S3 := J3.suite he3 hd3 na nL nF
    have tyE : PySem.W.Looks (model X.prog X.w) h3 (typeOf (.ref a)) cls := fun A Q E s k q => wpAny_typeOf_ref (k _ _ he3) (by rw [hz3.1]; exact q)
    suffices walk : ∀ {hds' : List ExceptHandler} {l' : List ClauseM}, Mix X hds' l' → wMix X.K Wout D l' cls d σ' H' → wpAny (model X.prog X.w) X.A (handleBy (.ref a) X.env hds') (SP X pins D) X.xe { s' with heap := h3 } from walk hh w
    intro hds' l' hk
    induction hk with
    | nil =>
      intro w
      refine wpAny_handleBy_nil ?_
      obtain ⟨k1, k2, k3, oe, vs, T, oT, ts', he, hz, hd, h1, hr⟩ := id fl3
      unfold PySem.passOn
      refine wpAny_bind (wpAny_field he hd h1 ?_)
      rw [if_neg (show ¬ ((Value.ref T == Value.none) = true) from by simp)]
      have fin : wpAny (model X.prog X.w) X.A (setFlight (.ref a) X.env.frame) (fun _ s4 => wpAny (model X.prog X.w) X.A (throw (.ref a) : Sem Flow) (SP X pins D) X.xe s4) X.xe { s' with heap := h3 } := by
        rw [hf]
        exact HandSPX.setFlight_upZ fl3 fun h4 hh4 up4 => wpAny_throw (tk _ _ ⟨a, B, sI, pins, σ', H', cls, d, rfl, J, nb, up13.trans up4, .inr (.inr (by rw [hs]; exact hh4)), na, os, ag, w⟩)
      first
        | exact wpAny_bind (wpAny_pure (wpAny_bind fin))
        | exact wpAny_bind fin
    | @cons x n c i ts b₀ suite np q hds2 l2 hi hln hc hsu r ih =>
      intro w
      obtain ⟨b, hb1, hyes, hno⟩ := w
      have LM := PySem.W.exm_one (M := model X.prog X.w) (J3.kIn) tyE hb1
      refine wpAny_handleBy_cons (codeAny_handlers_test ?_) (by intro q; cases q)
      have nm : ∀ {Q : Value → Shared → Prop} {E : Value → Shared → Prop}, Q c { s' with heap := h3 } → wpAny (model X.prog X.w) (X.A.mark (some (.ref a))) (eval (.Name x np) X.env) Q E { s' with heap := h3 } := fun {Q E} y => by
        rcases hc with ⟨g1, g2, m1 | ⟨m1, m2, m3⟩⟩
        · exact ld_glob (X := X.suite a ((a, oe3) :: (X.pn ++ pins))) S3 g1 m1 y g2
        · exact ld_blt (X := X.suite a ((a, oe3) :: (X.pn ++ pins))) S3 g1 m1 m2 y m3 g2
      refine nm (LM.here ?_)
      cases b with
      | false => exact ih (hno rfl)
      | true =>
        refine codeAny_handlers_suite_as (HandSPX.lands_againZ fl3 fun h4 fl4 up4 => ?_)
        obtain ⟨oe4, vs4, he4, hz4, hd4⟩ := fl4.there
        have S4 := (J.landed nb fl4.1 (up13.trans up4) os ag : Inv X pins σ' H' { s' with heap := h4 }).suite he4 hd4 na nL nF
        refine store_ok (X := X.suite a ((a, oe4) :: (X.pn ++ pins))) (v := .ref a) S4 hN hi (.inl hln) rfl (fun s5 S5 => ?_) (.inr hln)
        refine wpAny_mono ((hsu a oe4 cls d (X.pn ++ pins) hz4 ⟨_, hd4⟩).run [] s5 _ H' _ S5 (hyes rfl a na)) (fun f s6 hsp => ?_) (fun _ _ z => z.elim)
        have end_ : ∀ {σ6 : L2.St} {H6 : Hp} {Q : Shared → Prop}, Inv (X.suite a ((a, oe4) :: (X.pn ++ pins))) [] σ6 H6 s6 → (∀ s7, Inv X pins (σ6.set i none) H6 s7 → Q s7) →
            wpAny (model X.prog X.w) X.A (do bindName X.env n .none; unbindBehindTheSuite X.env n q) (fun _ s7 => Q s7) X.xe s6 := fun {σ6 H6 Q} S6 hq => gone_ok (S6.unsuite ok) hN hi hln hq
        cases f with
        | ret u => exact hsp.elim fun v z => z.elim fun σ6 z => z.elim fun H6 z => end_ z.1 fun s7 J7 => ⟨_, _, _, J7, z.2.1, z.2.2⟩
        | next => exact hsp.elim fun σ6 z => z.elim fun H6 z => end_ z.1 fun s7 J7 => ⟨_, _, J7, z.2⟩
        | brk => exact hsp.elim fun σ6 z => z.elim fun H6 z => end_ z.1 fun s7 J7 => ⟨_, _, J7, z.2⟩
        | cont => exact hsp.elim fun σ6 z => z.elim fun H6 z => end_ z.1 fun s7 J7 => ⟨_, _, J7, z.2⟩
    | @cons0 x c ts b₀ suite np q hds2 l2 hc hsu r ih =>
      intro w
      obtain ⟨b, hb1, hyes, hno⟩ := w
      have LM := PySem.W.exm_one (M := model X.prog X.w) (J3.kIn) tyE hb1
      refine wpAny_handleBy_cons (codeAny_handlers_test ?_) (by intro q; cases q)
      have nm : ∀ {Q : Value → Shared → Prop} {E : Value → Shared → Prop}, Q c { s' with heap := h3 } → wpAny (model X.prog X.w) (X.A.mark (some (.ref a))) (eval (.Name x np) X.env) Q E { s' with heap := h3 } := fun {Q E} y => by
        rcases hc with ⟨g1, g2, m1 | ⟨m1, m2, m3⟩⟩
        · exact ld_glob (X := X.suite a ((a, oe3) :: (X.pn ++ pins))) S3 g1 m1 y g2
        · exact ld_blt (X := X.suite a ((a, oe3) :: (X.pn ++ pins))) S3 g1 m1 m2 y m3 g2
      refine nm (LM.here ?_)
      cases b with
      | false => exact ih (hno rfl)
      | true =>
        refine codeAny_handlers_suite (HandSPX.lands_againZ fl3 fun h4 fl4 up4 => ?_)
        obtain ⟨oe4, vs4, he4, hz4, hd4⟩ := fl4.there
        have S4 := (J.landed nb fl4.1 (up13.trans up4) os ag : Inv X pins σ' H' { s' with heap := h4 }).suite he4 hd4 na nL nF
        refine wpAny_mono ((hsu a oe4 cls d (X.pn ++ pins) hz4 ⟨_, hd4⟩).run [] _ _ H' _ S4 (hyes rfl a na)) (fun f s6 hsp => ?_) (fun _ _ z => z.elim)
        cases f with
        | ret u => exact hsp.elim fun v z => z.elim fun σ6 z => z.elim fun H6 z => ⟨_, _, _, z.1.unsuite ok, z.2.1, z.2.2⟩
        | next => exact hsp.elim fun σ6 z => z.elim fun H6 z => ⟨_, _, z.1.unsuite ok, z.2⟩
        | brk => exact hsp.elim fun σ6 z => z.elim fun H6 z => ⟨_, _, z.1.unsuite ok, z.2⟩
        | cont => exact hsp.elim fun σ6 z => z.elim fun H6 z => ⟨_, _, z.1.unsuite ok, z.2⟩
  · have z2 := out z
    cases f with
    | next => exact wpAny_execs_nil z2
    | brk => exact z2
    | cont => exact z2
    | ret u => exact z2
end
end Z
set_option maxHeartbeats 4000000
namespace K28
open PySem PySem.Spec PyProof.Rows L2 Z
abbrev Sto : Type := Str → Int → Option Int
def sPut (f : Sto) (x : Str) (i : Int) (v : Option Int) : Sto := fun y j => if y = x ∧ j = i then v else f y j
def places (x : Str) : Int := (x.cps.toList.map fun (c : Nat) => ((c - 97 : Nat) : Int) + 1).sum
def first (x : Str) (i : Int) : Int := (7 * i + 3 * places x + 1).fmod 1000003
def held (f : Sto) (x : Str) (i : Int) : Int := match f x i with
  | some v => v
  | none => first x i
def Lets (x : Str) : Prop := x.length ≤ 8 ∧ ∀ c ∈ x.cps.toList, c ∈ lets.cps.toList
theorem let_ix : ∀ c ∈ lets.cps.toList, (Builtin.Str.occurrences lets (sing c) 0 lets.length 1).head? = some (c - 97) := by decide +kernel
theorem lets_of {x : Str} (h : isName x = true) : Lets x := by
  refine ⟨?_, isName_let h⟩
  unfold isName at h
  have h1 := (Bool.and_eq_true_iff.mp h).1
  exact (of_decide_eq_true h1).2
def spFirst : Sp := fun vs H Q _ => ∃ (x : Str) (i : Int), vs = [.str x, .int i] ∧ Lets x ∧ ∀ H', Same H H' → Q (.int (first x i)) H'
/-- a dict of ints by ints -/
def Inner (H : Hp) (d : Addr) (g : Int → Option Int) (N : Nat) : Prop := ∃ ics : List (Key × V), H d = some (.dK ics) ∧ ics.length ≤ N ∧ (∀ i, valV ics (.inl i) = (g i).map V.int) ∧ ∃ ks : List Int, ics.map (·.1) = ks.map Sum.inl ∧ ks.Nodup
structure NestR (P : Addr → Prop) (H : Hp) (kvs : List (Key × V)) (a : Addr) (f : Sto) (N : Nat) : Prop where
  len : kvs.length ≤ N
  keys : ∃ xs : List Str, kvs.map (·.1) = xs.map Sum.inr ∧ (∀ x ∈ xs, isName x = true)
  no : ∀ x, valV kvs (.inr x) = none → ∀ i, f x i = none
  yes : ∀ x v, valV kvs (.inr x) = some v → ∃ d, v = .ref d ∧ d ≠ a ∧ P d ∧ Inner H d (f x) N
  inj : ∀ x y d, valV kvs (.inr x) = some (.ref d) → valV kvs (.inr y) = some (.ref d) → x = y
/-- dicts of cells by arrays: what they hold, all of them among P -/
def Nest (P : Addr → Prop) (H : Hp) (a : Addr) (f : Sto) (N : Nat) : Prop := ∃ kvs : List (Key × V), H a = some (.dK kvs) ∧ P a ∧ NestR P H kvs a f N
section
variable {P P' : Addr → Prop} {H H' : Hp} {a d : Addr} {f : Sto} {g : Int → Option Int} {N N' : Nat} {kvs : List (Key × V)}
theorem Inner.to (h : Inner H d g N) (k : ∀ o, H d = some o → H' d = some o) : Inner H' d g N := by
  obtain ⟨ics, h1, h2, h3⟩ := h
  exact ⟨ics, k _ h1, h2, h3⟩
theorem Inner.up (h : Inner H d g N) (e : N ≤ N') : Inner H d g N' := by
  obtain ⟨ics, h1, h2, h3⟩ := h
  exact ⟨ics, h1, Nat.le_trans h2 e, h3⟩
theorem NestR.to (h : NestR P H kvs a f N) (k : ∀ b o, P b → H b = some o → H' b = some o) : NestR P H' kvs a f N := ⟨h.len, h.keys, h.no, fun x v e => by
  obtain ⟨d, h1, h2, h3, h4⟩ := h.yes x v e
  exact ⟨d, h1, h2, h3, h4.to fun o => k d o h3⟩, h.inj⟩
theorem Nest.to (h : Nest P H a f N) (k : ∀ b o, P b → H b = some o → H' b = some o) : Nest P H' a f N := by
  obtain ⟨kvs, h1, h2, h3⟩ := h
  exact ⟨kvs, k _ _ h2 h1, h2, h3.to k⟩
theorem Nest.same (h : Nest P H a f N) (s : Same H H') : Nest P H' a f N := h.to fun b o _ => s b o
theorem Nest.up (h : Nest P H a f N) (e : N ≤ N') : Nest P H a f N' := by
  obtain ⟨kvs, h1, h2, h3⟩ := h
  refine ⟨kvs, h1, h2, Nat.le_trans h3.len e, h3.keys, h3.no, fun x v q => ?_, h3.inj⟩
  obtain ⟨d, k1, k2, k3, k4⟩ := h3.yes x v q
  exact ⟨d, k1, k2, k3, k4.up e⟩
theorem Nest.imp (h : Nest P H a f N) (k : ∀ b, P b → H b ≠ none → P' b) : Nest P' H a f N := by
  obtain ⟨kvs, h1, h2, h3⟩ := h
  refine ⟨kvs, h1, k _ h2 (by rw [h1]; exact fun z => by cases z), h3.len, h3.keys, h3.no, fun x v q => ?_, h3.inj⟩
  obtain ⟨d, k1, k2, k3, k4⟩ := h3.yes x v q
  refine ⟨d, k1, k2, k _ k3 ?_, k4⟩
  obtain ⟨ics, e, _⟩ := k4
  rw [e]
  exact fun z => by cases z
/-- no pen among them -/
theorem pen_at {p c : Addr} {x y : Int} (e : H p = some (.dK (penK c x y))) : valV (penK c x y) (.inr "at") = some (.int x) := by
  unfold penK
  rfl
theorem Nest.notPen {p pc : Addr} {t : Nat} (h : Nest P H a f N) (hp : PenC H p pc t) : Nest (fun b => P b ∧ b ≠ p) H a f N := by
  obtain ⟨ns, q, l, hp, _⟩ := hp
  obtain ⟨kvs, h1, h2, h3⟩ := h
  have na : a ≠ p := fun z => by
    rw [z, hp] at h1
    cases h1
    obtain ⟨d, e, _⟩ := h3.yes _ _ (pen_at hp)
    cases e
  refine ⟨kvs, h1, ⟨h2, na⟩, h3.len, h3.keys, h3.no, fun x v e => ?_, h3.inj⟩
  obtain ⟨d, k1, k2, k3, k4⟩ := h3.yes x v e
  refine ⟨d, k1, k2, ⟨k3, fun z => ?_⟩, k4⟩
  obtain ⟨ics, e1, _, _, ks, e2, _⟩ := k4
  rw [z, hp] at e1
  cases e1
  unfold penK at e2
  cases ks with
  | nil => cases e2
  | cons k ks => cases e2
theorem Nest.keepC {p pc : Addr} {t : Nat} (h : Nest P H a f N) (hp : PenC H p pc t) (k : Keep p H H') : Nest P H' a f N :=
  ((h.notPen hp).to fun b o q e => k b o q.2 e).imp fun b q _ => q.1
end
def spHeld : Sp := fun vs H Q _ => ∃ (P : Addr → Prop) (a : Addr) (x : Str) (i : Int) (f : Sto) (N : Nat), vs = [.ref a, .str x, .int i] ∧ Nest P H a f N ∧ Lets x ∧ ∀ H', Same H H' → Q (.int (held f x i)) H'
section
variable {P : Program} {w : World} {K : PySem.W.Frag} {mg : Str → Option Value} {base : Heap}
theorem sc_first_value : FnScope ["array", "cell", "places", "letter"] ["array", "cell"] (defScope s_first_value) := ⟨rfl, rfl, rfl, by decide +kernel, rfl, by decide +kernel, by decide +kernel⟩
theorem ok_first {f : Addr} {fd : FuncData} (F : FnP K "first_value" s_first_value f fd) (T : LwTx K mg) (hMODULUS : ∃ t, mg "MODULUS" = some (.int 1000003 t)) : FnOk P w K mg base CX0 1 f fd ["array", "cell"] spFirst := by
  refine F.ok sc_first_value (fun vs H Q E h => ?_) (fun cdv A outer s H vs Q E hr h => ?_)
  · obtain ⟨x, i, rfl, _⟩ := h
    rfl
  · obtain ⟨x, i, rfl, hx, k⟩ := h
    obtain ⟨tLe, hLe⟩ := T.gLe
    obtain ⟨tMODULUS, hMODULUS⟩ := hMODULUS
    refine ⟨_, PSs.nox (pss_cons (ps_set (i := 2) sc_first_value.nd rfl (Or.inl rfl) (pe_callB (cr_sum rfl) (by rfl) T.sum (by decide +kernel) (pa_cons (pe_lc (own := [("letter", 3)]) (g := gName 3) (tt := tYes) rfl sc_first_value.nd (pi_str (pv 0)) (blkOk_by (N := ["array", "cell", "places", "letter"]) (sc := defScope s_first_value) (by decide +kernel)) (fun _ _ _ _ _ => (pg_name (i := 3) sc_first_value.nd rfl (.inl rfl))) (fun _ _ _ _ _ => pts_nil) (fun _ _ _ _ _ => (pe_op op_add (pe_bmK (K := K) rfl PySem.F.plainAttrs_str PySem.F.slot_str_index PySem.F.type_str_index mt_sindex (pe_glob (v := .str lets) rfl hLe ⟨tLe, rfl⟩) (pa_cons (pv 3) pa_nil)) pe_int))) pa_nil)))
      (pss_one (ps_ret (pe_op op_modN (pe_op op_add (pe_op op_add (pe_op op_mul pe_int (pv 1)) (pe_op op_mul pe_int (pv 2))) pe_int) (pe_glob (v := .int 1000003) rfl hMODULUS ⟨tMODULUS, rfl⟩))))), ?_⟩
    refine ⟨_, rfl, x, rfl, fun D hD => ?_⟩
    refine lc_str (fun j Hc => Hc D = some (.lst (((x.cps.toList.take j).map fun (c : Nat) => ((c - 97 : Nat) : Int) + 1).map V.int)) ∧ Same H Hc) ⟨upd_same, Same.new _ (Same.refl H) hD⟩ ?_ ?_
    · rintro j c Hc hc ⟨hc1, hc2⟩
      have hj : j < x.cps.toList.length := by
        rw [Array.length_toList]
        exact (Array.getElem?_eq_some_iff.mp hc).1
      have cj : x.cps.toList[j]? = some c := by
        rw [Array.getElem?_toList]
        exact hc
      have cl := hx.2 c (List.mem_of_getElem? cj)
      obtain ⟨rest, hrest⟩ : ∃ rest, Builtin.Str.occurrences lets (sing c) 0 lets.length 1 = (c - 97) :: rest := by
        have q := let_ix c cl
        cases e : Builtin.Str.occurrences lets (sing c) 0 lets.length 1 with
        | nil =>
          rw [e] at q
          cases q
        | cons y r =>
          rw [e] at q
          have q : y = c - 97 := Option.some.inj q
          exact ⟨r, by rw [q]⟩
      refine ⟨rfl, yes_of ?_⟩
      refine ⟨rfl, _, rfl, lets, sing c, c - 97, rest, rfl, rfl, hrest, _, _, rfl, rfl, ?_⟩
      refine ⟨_, hc1, ?_, ?_, fun b o e => ?_⟩
      · rw [List.length_map, List.length_map, List.length_take]
        have : x.cps.toList.length = x.length := Array.length_toList
        have := sz1000
        have := hx.1
        omega
      · rw [upd_same, List.take_add_one, cj]
        simp
      · rw [upd_ne (ne_of_none e hD)]
        exact hc2 b o e
    · rintro Hc ⟨eD, sc⟩
      have e : x.cps.toList.take x.cps.size = x.cps.toList := List.take_of_length_le (Nat.le_of_eq Array.length_toList)
      rw [e] at eD
      refine ⟨D, _, rfl, SqL.of eD, ?_⟩
      refine normG (σ' := [some (.str x), some (.int i), some (.int (places x)), none]) rfl ?_
      refine ⟨_, rfl, _, _, rfl, rfl, .inl ⟨by decide, by decide⟩, _, rfl, _, _, rfl, rfl, .inl ⟨by decide, by decide⟩, _, _, rfl, rfl, _, _, rfl, rfl, _, _, rfl, rfl, (by show (1000003 : Int) ≠ 0; decide), ?_⟩
      exact k _ sc
theorem sc_held_value : FnScope ["cells", "array", "cell", "held"] ["cells", "array", "cell"] (defScope s_held_value) := ⟨rfl, rfl, rfl, by decide +kernel, rfl, by decide +kernel, by decide +kernel⟩
theorem ok_held {f : Addr} {fd : FuncData} (F : FnP K "held_value" s_held_value f fd) (dFirst : Dn P w K mg base 1 "first_value" ["array", "cell"] spFirst) : FnOk P w K mg base CX0 2 f fd ["cells", "array", "cell"] spHeld := by
  refine F.ok sc_held_value (fun vs H Q E h => ?_) (fun cdv A outer s H vs Q E hr h => ?_)
  · obtain ⟨P, a, x, i, f, N, rfl, _⟩ := h
    rfl
  · obtain ⟨PP, a, x, i, f, N, rfl, ⟨kvs, ha, hPa, nr⟩, hx, k⟩ := h
    have hu := hu_of hr
    refine ⟨_, PSs.nox (pss_cons (ps_set (i := 3) sc_held_value.nd rfl (Or.inl rfl) (pe_dget1 hu (pv 0) (pv 1) ⟨rfl, rfl, rfl, rfl⟩))
      (pss_cons (ps_if (PW.pt (pw_and (pt_cmpR op_notN (pv 3) pe_non (nomark _)) (pw_and1 (pt_cmp (pc_din hu (pv 2) (pv 3)))))) (pss_one (ps_ret (pe_dget hu (pv 3) (pv 2) (fun _ _ => rfl)))) pss_nil)
      (pss_one (ps_ret (pe_dn dFirst hr (pa_cons (pv 1) (pa_cons (pv 2) pa_nil))))))), ?_⟩
    refine ⟨_, rfl, a, rfl, .inl ⟨kvs, .inl ha⟩, _, rfl, valV kvs (.inr x), DGet.k (k := Sum.inr x) ha, ?_⟩
    cases e : valV kvs (.inr x) with
    | none =>
      have q := nr.no x e i
      refine ⟨_, rfl, rfl, _, rfl, if_no rfl (iteF ?_)⟩
      have hk : held f x i = first x i := by unfold held; rw [q]
      rw [hk] at k
      exact ⟨_, rfl, _, rfl, x, i, rfl, hx, k⟩
    | some v =>
      obtain ⟨d, rfl, _, _, ics, hd, _, hv, _⟩ := nr.yes x v e
      refine ⟨_, rfl, rfl, _, rfl, iteT ?_⟩
      have q := hv i
      cases e2 : f x i with
      | none =>
        rw [e2] at q
        have hk : held f x i = first x i := by unfold held; rw [e2]
        rw [hk] at k
        refine ⟨_, rfl, _, rfl, d, valV ics (.inl i), rfl, DGet.k (k := Sum.inl i) hd, ?_⟩
        rw [q]
        exact ⟨_, rfl, if_no rfl ⟨_, rfl, _, rfl, x, i, rfl, hx, k⟩⟩
      | some u =>
        rw [e2] at q
        have hk : held f x i = u := by unfold held; rw [e2]
        rw [hk] at k
        refine ⟨_, rfl, _, rfl, d, valV ics (.inl i), rfl, DGet.k (k := Sum.inl i) hd, ?_⟩
        rw [q]
        have z := DGet.k (k := Sum.inl i) hd
        rw [q] at z
        exact ⟨_, rfl, iteT ⟨_, rfl, _, rfl, d, _, rfl, z, k _ (Same.refl _)⟩⟩
end
end K28
set_option maxHeartbeats 4000000
namespace K28
open PySem PySem.Spec PyProof.Rows L2 Z
theorem valV_drop {κ : Type} [DecidableEq κ] {k j : κ} : ∀ {kvs : List (κ × V)}, valV (dropK kvs k) j = if j = k then none else valV kvs j
  | [] => by
    by_cases h : j = k
    · rw [if_pos h]; rfl
    · rw [if_neg h]; rfl
  | p :: r => by
    by_cases h : p.1 = k
    · rw [dropK_pos h, valV_drop]
      by_cases e : j = k
      · rw [if_pos e, if_pos e]
      · rw [if_neg e, if_neg e, valV_neg (fun z => e (z.symm.trans h))]
    · rw [dropK_neg h]
      by_cases e : j = k
      · rw [if_pos e, valV_neg (fun z => h (z.trans e)), valV_drop, if_pos e]
      · rw [if_neg e]
        by_cases q : p.1 = j
        · rw [valV_pos q, valV_pos q]
        · rw [valV_neg q, valV_neg q, valV_drop, if_neg e]
theorem keys_put {κ : Type} [DecidableEq κ] {kvs : List (κ × V)} {k : κ} {v : V} : (putK kvs k v).map (·.1) = if (valV kvs k).isSome = true then kvs.map (·.1) else kvs.map (·.1) ++ [k] := by
  unfold putK
  rw [valV_any]
  by_cases h : (valV kvs k).isSome = true
  · rw [if_pos h, if_pos h, List.map_map]
    refine List.map_congr_left fun p _ => ?_
    by_cases e : p.1 = k
    · show (if p.1 = k then (p.1, v) else p).1 = p.1
      rw [if_pos e]
    · show (if p.1 = k then (p.1, v) else p).1 = p.1
      rw [if_neg e]
  · rw [if_neg h, if_neg h, List.map_append]
    rfl
theorem keys_in {κ : Type} [DecidableEq κ] {kvs : List (κ × V)} {k : κ} : (valV kvs k).isSome = true ↔ k ∈ kvs.map (·.1) := by
  rw [← valV_any, List.any_eq_true, List.mem_map]
  exact ⟨fun ⟨p, h1, h2⟩ => ⟨p, h1, of_decide_eq_true h2⟩, fun ⟨p, h1, h2⟩ => ⟨p, h1, decide_eq_true h2⟩⟩
/-- all but P's stand, what stands goes on standing -/
structure Fr (P : Addr → Prop) (H H' : Hp) : Prop where
  keep : ∀ b o, H b = some o → ¬ P b → H' b = some o
  there : ∀ b, H b ≠ none → H' b ≠ none
  ms : MS H H'
/-- the array's dict -/
def At (H : Hp) (a : Addr) (x : Str) (d : Addr) : Prop := ∃ kvs, H a = some (.dK kvs) ∧ valV kvs (.inr x) = some (.ref d)
section
variable {P : Addr → Prop} {H H1 H2 H' : Hp} {a d e : Addr} {f : Sto} {g : Int → Option Int} {x : Str} {i v : Int} {N N' : Nat}
theorem Fr.refl : Fr P H H := ⟨fun _ _ h _ => h, fun _ h => h, .refl _⟩
theorem Fr.trans (p : Fr P H H1) (q : Fr P H1 H2) : Fr P H H2 := ⟨fun b o h n => q.keep b o (p.keep b o h n) n, fun b h => q.there b (p.there b h), p.ms.trans q.ms⟩
theorem Fr.same (s : Same H H') : Fr P H H' := ⟨fun b o h _ => s b o h, fun b h => by
  cases e : H b with
  | none => exact absurd e h
  | some o =>
    rw [s b o e]
    exact fun z => (by cases z), .of s⟩
theorem Fr.upd {o u : HO} (h : H a = some u) (hu : imm u = false) (hP : P a) : Fr P H (upd H a o) := ⟨fun b w e n => by
  rw [upd_ne (fun (z : b = a) => n (by rw [z]; exact hP))]
  exact e, fun b h => by
  by_cases z : b = a
  · rw [z, upd_same]
    exact fun z => by cases z
  · rw [upd_ne z]
    exact h, .updO h hu⟩
theorem Fr.fresh (h : Fr P H H') {b : Addr} (n : H' b = none) : H b = none := by
  cases e : H b with
  | none => rfl
  | some o => exact absurd n (h.there b (by rw [e]; exact fun z => by cases z))
theorem Fr.base {H0 : Hp} (h : Fr (fun b => H0 b = none) H H') (s : Same H0 H) : Same H0 H' := fun b o e => h.keep b o (s b o e) fun z => by
  rw [z] at e
  cases e
theorem Inner.put (h : Inner H d g N) (q : H' d = H d) : ∃ ics, H' d = some (.dK ics) ∧ ics.length ≤ N ∧ valV ics (.inl i) = (g i).map V.int ∧
    ∀ H3, H3 d = some (.dK (putK ics (.inl i) (.int v))) → Inner H3 d (fun j => if j = i then some v else g j) (N + 1) := by
  obtain ⟨ics, h1, h2, h3, ks, h4, h5⟩ := h
  refine ⟨ics, q.trans h1, h2, h3 i, fun H3 e => ⟨_, e, Nat.le_trans (length_putK _ _ _) (by omega), fun j => ?_, ?_⟩⟩
  · rw [valV_put]
    show _ = Option.map V.int (if j = i then some v else g j)
    by_cases z : j = i
    · rw [z, if_pos rfl, if_pos rfl]
      rfl
    · rw [if_neg (fun q => z (Sum.inl.inj q)), if_neg z]
      exact h3 j
  · rw [keys_put, h4]
    by_cases z : (valV ics (.inl i)).isSome = true
    · rw [if_pos z]
      exact ⟨ks, rfl, h5⟩
    · rw [if_neg z]
      refine ⟨ks ++ [i], by rw [List.map_append]; rfl, ?_⟩
      rw [List.nodup_append]
      refine ⟨h5, List.nodup_cons.mpr ⟨List.not_mem_nil, List.nodup_nil⟩, fun y hy z' hz e => ?_⟩
      rw [List.mem_singleton.mp hz] at e
      refine z (keys_in.mpr ?_)
      rw [h4]
      exact List.mem_map.mpr ⟨y, hy, by rw [e]⟩
theorem Inner.drop (h : Inner H d g N) : ∃ ics, H d = some (.dK ics) ∧ (valV ics (.inl i)) = (g i).map V.int ∧
    ∀ H3, H3 d = some (.dK (dropK ics (.inl i))) → Inner H3 d (fun j => if j = i then none else g j) N := by
  obtain ⟨ics, h1, h2, h3, ks, h4, h5⟩ := h
  refine ⟨ics, h1, h3 i, fun H3 e => ⟨_, e, Nat.le_trans (dropK_le _ _) h2, fun j => ?_, ?_⟩⟩
  · rw [valV_drop]
    show _ = Option.map V.int (if j = i then none else g j)
    by_cases z : j = i
    · rw [z, if_pos rfl, if_pos rfl]
      rfl
    · rw [if_neg (fun q => z (Sum.inl.inj q)), if_neg z]
      exact h3 j
  · refine ⟨ks.filter fun j => decide (j ≠ i), ?_, h5.filter _⟩
    unfold dropK
    clear h1 h2 h3 h5 e
    induction ics generalizing ks with
    | nil =>
      cases ks with
      | nil => rfl
      | cons k ks => cases h4
    | cons p ics ih =>
      cases ks with
      | nil => cases h4
      | cons k ks =>
        rw [List.map_cons, List.map_cons] at h4
        obtain ⟨e1, e2⟩ := List.cons.inj h4
        have q := ih ks e2
        by_cases z : k = i
        · rw [List.filter_cons_of_neg (by simp [e1, z]), List.filter_cons_of_neg (by simp [z])]
          exact q
        · rw [List.filter_cons_of_pos (by simp [e1, z]), List.filter_cons_of_pos (by simp [z]), List.map_cons, List.map_cons, q, e1]
theorem isName_len {x : Str} (h : isName x = true) : x.length ≤ 1000 := Nat.le_trans (lets_of h).1 (by decide)
/-- all but dicts stand -/
def ND (H H' : Hp) : Prop := ∀ b o, H b = some o → (∀ kvs, o ≠ .dK kvs) → H' b = some o
theorem ND.same {H H' : Hp} (s : Same H H') : ND H H' := fun b o e _ => s b o e
theorem ND.trans {H H1 H2 : Hp} (p : ND H H1) (q : ND H1 H2) : ND H H2 := fun b o e n => q b o (p b o e n) n
theorem ND.upd {H : Hp} {a : Addr} {kvs : List (Key × V)} {o : HO} (h : H a = some (.dK kvs)) : ND H (L2.upd H a o) := fun b u e n => by
  rw [upd_ne (fun (z : b = a) => n kvs (by rw [z, h] at e; exact (Option.some.inj e).symm))]
  exact e
theorem ND.lst {H H' : Hp} {a : Addr} {xs : List V} (q : ND H H') (e : H a = some (.lst xs)) : H' a = some (.lst xs) := q _ _ e fun _ z => by cases z
theorem ND.ins {H H' : Hp} {a C dx : Addr} {fs : List (Str × V)} (q : ND H H') (e : H a = some (.ins C dx fs)) : H' a = some (.ins C dx fs) := q _ _ e fun _ z => by cases z
/-- behind a.setdefault(x, {}): the dict of x stands at d -/
def SetAt (P : Addr → Prop) (H H3 : Hp) (a : Addr) (f : Sto) (x : Str) (d : Addr) (N : Nat) : Prop := Nest P H3 a f (N + 1) ∧ At H3 a x d ∧ Fr P H H3 ∧ ND H H3
/-- a.setdefault(x, {}): the dict of x -/
theorem nest_set (h : Nest P H a f N) (hx : isName x = true) (hN : N < 500000) (he : H e = none) (hP : P e) :
    ∃ kvs : List (Key × V), upd H e (.dK []) a = some (.dK kvs) ∧ kvs.length < sizeLine ∧ (∀ u, valV kvs (.inr x) = some u → ∃ d, u = .ref d ∧ SetAt P H (upd H e (.dK [])) a f x d N) ∧
      (valV kvs (.inr x) = none → SetAt P H (upd (upd H e (.dK [])) a (.dK (putK kvs (.inr x) (.ref e)))) a f x e N) := by
  have sE := Same.new (.dK []) (Same.refl H) he
  have h1 := h.same sE
  obtain ⟨kvs, ha, hPa, nr⟩ := h1
  have nea : e ≠ a := fun z => by
    obtain ⟨kv, ha0, _⟩ := h
    rw [z, ha0] at he
    cases he
  refine ⟨kvs, ha, sz1m _ (by have := nr.len; omega), fun u hu => ?_, fun hu => ?_⟩
  · obtain ⟨d, rfl, _, _, _⟩ := nr.yes x u hu
    exact ⟨d, rfl, Nest.up (N := N) ⟨kvs, ha, hPa, nr⟩ (by omega), ⟨kvs, ha, hu⟩, .same sE, .same sE⟩
  · have hl : kvs.length + 1 ≤ N + 1 := Nat.succ_le_succ nr.len
    have atA : upd (upd H e (.dK [])) a (.dK (putK kvs (.inr x) (.ref e))) a = some (.dK (putK kvs (.inr x) (.ref e))) := upd_same
    have old : ∀ y v, valV kvs (.inr y) = some v → ∃ d, v = .ref d ∧ d ≠ a ∧ P d ∧ d ≠ e ∧ Inner (upd (upd H e (.dK [])) a (.dK (putK kvs (.inr x) (.ref e)))) d (f y) (N + 1) := fun y v hv => by
      obtain ⟨kv, ha0, _, nr0⟩ := h
      have ek : kv = kvs := by
        have q := sE _ _ ha0
        rw [ha] at q
        cases q
        rfl
      subst ek
      obtain ⟨d, e1, e2, e3, e4⟩ := nr0.yes y v hv
      have de : d ≠ e := fun z => by
        obtain ⟨ics, q, _⟩ := e4
        rw [z, he] at q
        cases q
      exact ⟨d, e1, e2, e3, de, (e4.to fun o q => by rw [upd_ne e2, upd_ne de]; exact q).up (Nat.le_succ _)⟩
    refine ⟨⟨_, atA, hPa, Nat.le_trans (length_putK _ _ _) hl, ?_, fun y hy j => ?_, fun y v hv => ?_, fun y z d hy hz => ?_⟩, ⟨_, atA, by rw [valV_put, if_pos rfl]⟩, (Fr.same sE).trans (.upd ha rfl hPa), (ND.same sE).trans (.upd ha)⟩
    · obtain ⟨xs, e1, e2⟩ := nr.keys
      rw [keys_put, hu]
      refine ⟨xs ++ [x], by rw [if_neg (by simp), e1, List.map_append]; rfl, fun y hy => ?_⟩
      rcases List.mem_append.mp hy with z | z
      · exact e2 y z
      · rw [List.mem_singleton.mp z]
        exact hx
    · rw [valV_put] at hy
      by_cases z : (Sum.inr y : Key) = .inr x
      · rw [if_pos z] at hy
        cases hy
      · rw [if_neg z] at hy
        exact nr.no y hy j
    · rw [valV_put] at hv
      by_cases z : (Sum.inr y : Key) = .inr x
      · rw [if_pos z] at hv
        cases hv
        refine ⟨e, rfl, nea, hP, [], by rw [upd_ne nea, upd_same], Nat.zero_le _, fun j => ?_, [], rfl, List.nodup_nil⟩
        have := nr.no x hu j
        rw [Sum.inr.inj z, this]
        rfl
      · rw [if_neg z] at hv
        obtain ⟨d, e1, e2, e3, _, e4⟩ := old y v hv
        exact ⟨d, e1, e2, e3, e4⟩
    · rw [valV_put] at hy hz
      by_cases zy : (Sum.inr y : Key) = .inr x
      · by_cases zz : (Sum.inr z : Key) = .inr x
        · exact Sum.inr.inj (zy.trans zz.symm)
        · rw [if_pos zy] at hy
          rw [if_neg zz] at hz
          cases hy
          obtain ⟨d, q, _, _, de, _⟩ := old z _ hz
          cases q
          exact absurd rfl de
      · rw [if_neg zy] at hy
        by_cases zz : (Sum.inr z : Key) = .inr x
        · rw [if_pos zz] at hz
          cases hz
          obtain ⟨d, q, _, _, de, _⟩ := old y _ hy
          cases q
          exact absurd rfl de
        · rw [if_neg zz] at hz
          exact nr.inj y z d hy hz
theorem nest_upd {kvs : List (Key × V)} {u : HO} {w : Option Int} (ha : H a = some (.dK kvs)) (hPa : P a) (nr : NestR P H kvs a f N) (hv : valV kvs (.inr x) = some (.ref d)) (hi : Inner (upd H d u) d (fun j => if j = i then w else f x j) N') (hN : N ≤ N') : Nest P (upd H d u) a (sPut f x i w) N' := by
  obtain ⟨d', e0, da, pd, _⟩ := nr.yes x _ hv
  cases e0
  refine ⟨kvs, by rw [upd_ne (Ne.symm da)]; exact ha, hPa, Nat.le_trans nr.len hN, nr.keys, fun y hy j => ?_, fun y v' hv' => ?_, nr.inj⟩
  · have ne : y ≠ x := fun z => by
      rw [z, hv] at hy
      cases hy
    unfold sPut
    rw [if_neg (fun z => ne z.1)]
    exact nr.no y hy j
  · obtain ⟨d2, e1, e2, e3, e4⟩ := nr.yes y v' hv'
    refine ⟨d2, e1, e2, e3, ?_⟩
    by_cases z : y = x
    · subst z
      rw [hv] at hv'
      cases hv'
      cases e1
      have q : sPut f y i w y = fun j => if j = i then w else f y j := by
        funext j
        unfold sPut
        by_cases c : j = i
        · rw [if_pos ⟨rfl, c⟩, if_pos c]
        · rw [if_neg (fun q => c q.2), if_neg c]
      rw [q]
      exact hi
    · have nd : d2 ≠ d := fun q => by
        subst e1
        rw [q] at hv'
        exact z (nr.inj y x d hv' hv)
      have q : sPut f x i w y = f y := by
        funext j
        unfold sPut
        rw [if_neg (fun c => z c.1)]
      rw [q]
      exact (e4.to fun o q => by rw [upd_ne nd]; exact q).up hN
/-- d[i] = v, d the dict of x -/
theorem nest_put (h : Nest P H a f N) (k : At H a x d) : ∃ ics, H d = some (.dK ics) ∧ ics.length ≤ N ∧ valV ics (.inl i) = (f x i).map V.int ∧ P d ∧ d ≠ a ∧
    Nest P (upd H d (.dK (putK ics (.inl i) (.int v)))) a (sPut f x i (some v)) (N + 1) ∧ Fr P H (upd H d (.dK (putK ics (.inl i) (.int v)))) := by
  obtain ⟨kvs, ha, hPa, nr⟩ := h
  obtain ⟨kvs', ha', hv⟩ := k
  rw [ha] at ha'
  cases ha'
  obtain ⟨d', e0, da, pd, inn⟩ := nr.yes x _ hv
  cases e0
  obtain ⟨ics, h1, h2, h3, h4⟩ := inn.put (i := i) (v := v) rfl
  exact ⟨ics, h1, h2, h3, pd, da, nest_upd ha hPa nr hv (h4 _ upd_same) (Nat.le_succ _), .upd h1 rfl pd⟩
theorem nest_drop (h : Nest P H a f N) (k : At H a x d) : ∃ ics, H d = some (.dK ics) ∧ valV ics (.inl i) = (f x i).map V.int ∧
    Nest P (upd H d (.dK (dropK ics (.inl i)))) a (sPut f x i none) N ∧ Fr P H (upd H d (.dK (dropK ics (.inl i)))) := by
  obtain ⟨kvs, ha, hPa, nr⟩ := h
  obtain ⟨kvs', ha', hv⟩ := k
  rw [ha] at ha'
  cases ha'
  obtain ⟨d', e0, da, pd, inn⟩ := nr.yes x _ hv
  cases e0
  obtain ⟨ics, h1, h3, h4⟩ := inn.drop (i := i)
  exact ⟨ics, h1, h3, nest_upd ha hPa nr hv (h4 _ upd_same) (Nat.le_refl _), .upd h1 rfl pd⟩
theorem At.to (k : At H a x d) (h : ∀ o, H a = some o → H' a = some o) : At H' a x d := by
  obtain ⟨kvs, h1, h2⟩ := k
  exact ⟨kvs, h _ h1, h2⟩
theorem at_of (h : Nest P H a f N) (q : f x i ≠ none) : ∃ d, At H a x d := by
  obtain ⟨kvs, ha, _, nr⟩ := h
  cases e : valV kvs (.inr x) with
  | none => exact absurd (nr.no x e i) q
  | some v =>
    obtain ⟨d, rfl, _⟩ := nr.yes x v e
    exact ⟨d, kvs, ha, e⟩
end
theorem Nest.dk {P : Addr → Prop} {H H' : Hp} {a : Addr} {f : Sto} {N : Nat} (h : Nest P H a f N) (k : ∀ b kvs, H b = some (.dK kvs) → H' b = some (.dK kvs)) : Nest P H' a f N := by
  obtain ⟨kvs, h1, h2, h3⟩ := h
  refine ⟨kvs, k _ _ h1, h2, h3.len, h3.keys, h3.no, fun x v e => ?_, h3.inj⟩
  obtain ⟨d, k1, k2, k3, ics, k4, k5⟩ := h3.yes x v e
  exact ⟨d, k1, k2, k3, ics, k _ _ k4, k5⟩
theorem At.dk {H H' : Hp} {a : Addr} {x : Str} {d : Addr} (h : At H a x d) (k : ∀ b kvs, H b = some (.dK kvs) → H' b = some (.dK kvs)) : At H' a x d := by
  obtain ⟨kvs, h1, h2⟩ := h
  exact ⟨kvs, k _ _ h1, h2⟩
/-- a.setdefault(x, {}) -/
def tSet (td ty : TE) : TE := fun σ H Q => td σ H fun v H1 => ∃ a, v = .ref a ∧ IsD H1 a ∧ ty σ H1 fun y H2 => ∃ (P : Addr → Prop) (f : Sto) (N : Nat) (x : Str), y = .str x ∧ Nest P H2 a f N ∧ isName x = true ∧ N < 500000 ∧ (∀ e, H2 e = none → P e) ∧
  ∀ d H3, SetAt P H2 H3 a f x d N → Q (.ref d) H3
theorem pe_set {X : Cx} {o e : Expr} {td ty : TE} {apos cpos dpos : Pos} (ho : PE X o td) (he : PE X e ty) (m : M2 X o "setdefault" apos e (.Dict [] [] dpos) cpos) : PE X (.Call (.Attribute o "setdefault" apos) [e, .Dict [] [] dpos] [] cpos) (tSet td ty) := by
  refine ⟨fun pins s σ H Q I h => ?_⟩
  refine wpAny_Call_method m.base m.few m.line PySem.F.plainAttrs_dict PySem.F.slot_dict_setdefault PySem.F.type_dict_setdefault (thn (ho.run pins s σ H _ I h) fun u s1 ⟨v, H1, I1, r1, a, ev, isd, q1⟩ => ?_)
  subst ev
  obtain rfl : u = Value.ref a := r1
  obtain ⟨ta, tb, _⟩ := isD_at I1 isd
  refine ⟨ta, tb, ?_⟩
  rw [m.trees]
  refine Calls.callWith_builtin rfl (Calls.evalArgs_plain (Calls.spliced_cons (thn (he.run pins s1 σ H1 _ I1 q1) fun iv s2 ⟨y, H2, I2, ry, P, f, N, x, ey, ne, nx, hN, hP, q2⟩ => Calls.spliced_cons (thn (pe_dnewK.run pins s2 σ H2 (fun z H3 => ∃ e, z = .ref e ∧ H2 e = none ∧ H3 = L2.upd H2 e (.dK [])) I2 (fun e he => ⟨e, rfl, he, rfl⟩)) fun fv s3 ⟨z, H3, I3, rz, e, ez, he, eH⟩ => Calls.spliced_nil ?_))))
  subst ey ez eH
  obtain ⟨kvs, h1, h2, h3, h4⟩ := nest_set ne nx hN he (hP e he)
  exact d_setd I3 h1 (k := .inr x) ry rz h2 (fun v hv w' s4 I4 rw' => by
    obtain ⟨d, rfl, g⟩ := h3 v hv
    exact ⟨_, _, I4, rw', q2 d _ g⟩) fun hn w' s4 I4 rw' => ⟨_, _, I4, rw', q2 e _ (h4 hn)⟩
end K28
set_option maxHeartbeats 4000000
namespace K28
open PySem PySem.Spec PyProof.Rows L2 Z
def spValIn (K : PySem.W.Frag) : Sp := fun vs H Q E => ∃ (P : Addr → Prop) (a : Addr) (x : Str) (i : Int) (f : Sto) (N : Nat), vs = [.ref a, .str x, .int i] ∧ Nest P H a f N ∧ x.length ≤ 1000 ∧
  (isName x = false → Rz K H E (.name x)) ∧ (isName x = true → ∀ H', Same H H' → Q (.int (held f x i)) H')
/-- what a work writes -/
def wVal (f : Sto) (s : StM) (c n : Int) : Int := (s.k + (s.rds.map fun r => r.f * held f (rdCell r c n).1 (rdCell r c n).2).sum).fmod 1000003
def spWriteOf (K : PySem.W.Frag) : Sp := fun vs H Q _ => ∃ (v : V) (ls : List LpM) (n : Int) (tw : Addr) (w : W3) (P : Addr → Prop) (a : Addr) (f : Sto) (N : Nat) (j k : Nat) (l : LpM) (s : StM), vs = [v, .int n, .ref tw, .ref a] ∧ PrOb K H v ls ∧ H tw = some (.tup [.int w.1, .int w.2.1, .int w.2.2]) ∧
  w.1 = (j : Int) ∧ w.2.2 = (k : Int) ∧ ls[j]? = some l ∧ l.sts[k]? = some s ∧ StOk s ∧ Nest P H a f N ∧ ∀ t H', Same H H' → H' t = some (.tup [.str (cellOf s w.2.1 n).1, .int (cellOf s w.2.1 n).2, .int (wVal f s w.2.1 n)]) → Q (.ref t) H'
/-- cells told at the beginning -/
abbrev Gv : Type := Str × Int × Int
def gvD (g : Gv) : PyData := .tuple [.str g.1, .int g.2.1, .int g.2.2]
def gPut (f : Sto) (g : Gv) : Sto := sPut f g.1 g.2.1 (some (g.2.2.fmod 1000003))
def giv (gs : List Gv) : Sto := gs.foldl gPut fun _ _ => none
def gBad (gs : List Gv) : Option Str := (gs.find? fun g => !isName g.1).map (·.1)
def spFirstC (K : PySem.W.Frag) : Sp := fun vs H Q E => ∃ (l : Addr) (xs : List V) (gs : List Gv), vs = [.ref l] ∧ SqA K H l xs ∧ DTs H xs (gs.map gvD) ∧ gs.length ≤ 10000 ∧ (∀ g ∈ gs, g.1.length ≤ 1000) ∧
  (∀ x, gBad gs = some x → Rz K H E (.name x)) ∧ (gBad gs = none → ∀ a H', Same H H' → Nest (fun b => H b = none) H' a (giv gs) (2 * gs.length) → Q (.ref a) H')
theorem dt_gv {H : Hp} {v : V} {g : Gv} (h : DT H v (gvD g)) : ∃ t, v = .ref t ∧ H t = some (.tup [.str g.1, .int g.2.1, .int g.2.2]) := by
  obtain ⟨t, xs, rfl, h1, d⟩ := DT.tup' h
  cases d with
  | cons a d =>
    cases d with
    | cons b d =>
      cases d with
      | cons c d =>
        cases d
        cases a
        cases b
        cases c
        exact ⟨t, rfl, h1⟩
section
variable {P : Program} {w : World} {K : PySem.W.Frag} {mg : Str → Option Value} {base : Heap}
theorem sc_value_in : FnScope ["cells", "array", "cell"] ["cells", "array", "cell"] (defScope s_value_in) := ⟨rfl, rfl, rfl, by decide +kernel, rfl, by decide +kernel, by decide +kernel⟩
theorem ok_valIn {f : Addr} {fd : FuncData} (F : FnP K "value_in" s_value_in f fd) (dCkA : Dx P w K mg base 3 "check_name" ["array"] (spCkA K)) (dHeld : Dn P w K mg base 2 "held_value" ["cells", "array", "cell"] spHeld) : FnOk P w K mg base (L2.CX P w) 4 f fd ["cells", "array", "cell"] (spValIn K) := by
  refine F.ok sc_value_in (fun vs H Q E h => ?_) (fun cdv A outer s H vs Q E hr h => ?_)
  · obtain ⟨PP, a, x, i, f, N, rfl, _⟩ := h
    rfl
  · obtain ⟨PP, a, x, i, f, N, rfl, ne, hx, k1, k2⟩ := h
    refine ⟨_, (pss_cons (ps_expr (pe_dx (K := K) dCkA rfl hr (fun σ => passAt (takes_of rfl rfl rfl rfl) σ) (pa_cons (pv 1) pa_nil)))
      (pss_one (ps_ret (pe_dn dHeld hr (pa_cons (pv 0) (pa_cons (pv 1) (pa_cons (pv 2) pa_nil))))))), ?_⟩
    refine ⟨_, rfl, x, rfl, hx, ?_⟩
    cases e : isName x with
    | false => exact Out.bad (if_neg (by rw [e]; simp)) (k1 e)
    | true =>
      refine Out.ok (if_pos e) fun H1 s1 => ?_
      exact ⟨_, rfl, _, rfl, _, rfl, PP, a, x, i, f, N, rfl, ne.same s1, lets_of e, fun H2 s2 => k2 e _ (s1.trans s2)⟩
theorem sc_write_of : FnScope ["program", "n", "work", "cells", "statement", "value", "read"] ["program", "n", "work", "cells"] (defScope s_write_of) := ⟨rfl, rfl, rfl, by decide +kernel, rfl, by decide +kernel, by decide +kernel⟩
theorem ok_writeOf {f : Addr} {fd : FuncData} (F : FnP K "write_of" s_write_of f fd) (T : LwTx K mg) (C : PC P w K mg base) (hMODULUS : ∃ t, mg "MODULUS" = some (.int 1000003 t)) (dStmOf : Dn P w K mg base 1 "statement_of" ["program", "work"] (spStmOf K)) (dHeld : Dn P w K mg base 2 "held_value" ["cells", "array", "cell"] spHeld) :
    FnOk P w K mg base CX0 3 f fd ["program", "n", "work", "cells"] (spWriteOf K) := by
  refine F.ok sc_write_of (fun vs H Q E h => ?_) (fun cdv A outer s H vs Q E hr h => ?_)
  · obtain ⟨v, ls, n, tw, w, PP, a, f, N, j, k, l, s, rfl, _⟩ := h
    rfl
  · obtain ⟨v, ls, n, tw, w0, PP, a, f, N, j, q, l, s, rfl, ob, htw, hj, hq, hl, hs, oks, ne, k⟩ := h
    obtain ⟨fdc, Fc, hbc, cc⟩ := C.call
    obtain ⟨fds, Fs, hbs, cs⟩ := C.calS
    obtain ⟨tMODULUS, hMODULUS⟩ := hMODULUS
    obtain ⟨nmx, sm6, k0, k1, lr, _, okr, _⟩ := id oks
    refine ⟨_, PSs.nox (pss_cons (ps_set (i := 4) sc_write_of.nd rfl (Or.inl rfl) (pe_dn dStmOf hr (pa_cons (pv 0) (pa_cons (pv 2) pa_nil))))
      (pss_cons (ps_set (i := 5) sc_write_of.nd rfl (Or.inl rfl) (pe_fld (pv 4) rfl))
      (pss_cons (ps_for PassesOwn.never rfl (pi_tup (pe_fld (pv 4) rfl)) (pg_name (i := 6) sc_write_of.nd rfl (.inl rfl)) (pss_one (ps_aug (i := 5) sc_write_of.nd rfl (Or.inl rfl) (pe_op op_mul (pe_fld (pv 6) rfl) (pe_dn dHeld hr (pa_cons (pv 3) (pa_cons (pe_fldK (K := K) rfl (pv 6)) (pa_cons (pe_fcallK (K := K) rfl (pv 6) cc (FnOk.raw Fc hbc .nil) (hr.mono (by decide)) pass0 (pa_cons (pe_ix (ix_tupK (K := K) rfl) (pv 2) pe_int (fun _ _ => rfl)) (pa_cons (pv 1) pa_nil))) pa_nil))))) ip_add)))
      (pss_one (ps_ret (pe_tup (pa_cons (pe_fld (pv 4) rfl) (pa_cons (pe_fcallK (K := K) rfl (pv 4) cs (FnOk.raw Fs hbs .nil) (hr.mono (by decide)) pass0 (pa_cons (pe_ix (ix_tupK (K := K) rfl) (pv 2) pe_int (fun _ _ => rfl)) (pa_cons (pv 1) pa_nil))) (pa_cons (pe_op op_modN (pv 5) (pe_glob (v := .int 1000003) rfl hMODULUS ⟨tMODULUS, rfl⟩)) pa_nil))))))))), ?_⟩
    refine ⟨_, rfl, _, rfl, v, ls, tw, w0, j, q, l, s, rfl, ob, htw, hj, hq, hl, hs, fun v' obs => ?_⟩
    obtain ⟨p6, rs, cs6, rfl, ⟨dx6, q6, r6, g6, h6, hq6, hr6, hg6⟩, f1, f2⟩ := obs
    refine normG (σ' := [some v, some (.int n), some (.ref tw), some (.ref a), some (.ref p6), none, none]) rfl ?_
    refine ⟨_, rfl, p6, _, dx6, _, _, rfl, h6, T.clM, T.nMK, stf_k _ _ _ _ _, ?_⟩
    refine normG (σ' := [some v, some (.int n), some (.ref tw), some (.ref a), some (.ref p6), some (.int s.k), none]) rfl ?_
    refine ⟨_, rfl, p6, _, dx6, _, _, rfl, h6, T.clM, T.nMR, stf_r _ _ _ _ _, r6, rfl, ⟨_, hr6⟩, ?_⟩
    have lrs : rs.length = s.rds.length := f1.1
    refine for_tup (K := K) (xs := rs) (fun i σ H' => ∃ v6 : Option V, σ = [some v, some (.int n), some (.ref tw), some (.ref a), some (.ref p6), some (.int (s.k + ((s.rds.take i).map fun r => r.f * held f (rdCell r w0.2.1 n).1 (rdCell r w0.2.1 n).2).sum)), v6] ∧ Same H H')
      ⟨none, (by simp), Same.refl H⟩ (fun i σ H' _ z => by
        obtain ⟨_, _, s'⟩ := z
        exact SqT.same hr6 s') ?_ ?_
    · rintro i rv σ H1 hrv ⟨v6, rfl, s1⟩
      obtain ⟨r, er, obr⟩ := (f1.imp fun _ _ z => z.same s1).at hrv
      have okr1 := okr r (List.mem_of_getElem? er)
      obtain ⟨pr, dr, qp, ra, rb, re, rd, rfl, hpr, hplc, sa, sb, d0, d1, ev⟩ := rd_cell obr w0.2.1 n
      obtain ⟨dq, qq, hpi, _⟩ := id hplc
      refine normG (σ' := [some v, some (.int n), some (.ref tw), some (.ref a), some (.ref p6), some (.int (s.k + ((s.rds.take i).map fun r => r.f * held f (rdCell r w0.2.1 n).1 (rdCell r w0.2.1 n).2).sum)), some (.ref pr)]) rfl ?_
      refine ⟨_, rfl, _, rfl, pr, _, dr, _, _, rfl, hpr, T.clR, T.nRF, rdf_f _ _ _, ?_⟩
      refine ⟨_, rfl, _, rfl, pr, _, dr, _, _, rfl, hpr, T.clR, T.nRA, rdf_a _ _ _, _, rfl, pr, _, dr, _, qp, rfl, hpr, T.clR, T.nRP, rdf_p _ _ _, _, rfl, tw, _, _, _, rfl, rfl, SqT.of (s1 _ _ htw), at1, _, rfl, ⟨_, _, hpi⟩, qp, ra, rb, re, rd, w0.2.1, n, rfl, hplc, sa, sb, d0, d1, ?_⟩
      rw [ev]
      refine ⟨PP, a, r.x, (rdCell r w0.2.1 n).2, f, N, rfl, ne.same s1, lets_of okr1.1.1, fun H2 s2 => ?_⟩
      refine ⟨_, _, rfl, rfl, .inl ⟨by have := okr1.2.2.2.2.2; omega, by have := okr1.2.2.2.2.2; omega⟩, _, _, rfl, rfl, ?_⟩
      have e : s.k + ((s.rds.take i).map fun r => r.f * held f (rdCell r w0.2.1 n).1 (rdCell r w0.2.1 n).2).sum + r.f * held f r.x (rdCell r w0.2.1 n).2 = s.k + ((s.rds.take (i + 1)).map fun r => r.f * held f (rdCell r w0.2.1 n).1 (rdCell r w0.2.1 n).2).sum := by
        rw [List.take_add_one, er, List.map_append, List.sum_append]
        show _ = s.k + (_ + (r.f * held f r.x (rdCell r w0.2.1 n).2 + 0))
        omega
      exact ⟨some (.ref pr), congrArg (fun z => [some v, some (.int n), some (.ref tw), some (.ref a), some (.ref p6), some (.int z), some (.ref pr)]) e, s1.trans s2⟩
    · rintro σ H1 ⟨v6, rfl, s1⟩
      rw [lrs, List.take_length]
      have hq7 : StrAt K H1 q6 s.a s.b s.c := hq6.same s1
      obtain ⟨dq, hq8⟩ := id hq7
      have sm := sm3_a sm6
      refine ⟨_, rfl, p6, _, dx6, _, _, rfl, s1 _ _ h6, T.clM, T.nMA, stf_a _ _ _ _ _, _, rfl, p6, _, dx6, _, q6, rfl, s1 _ _ h6, T.clM, T.nMC, stf_c _ _ _ _ _, _, rfl, tw, _, _, _, rfl, rfl, SqT.of (s1 _ _ htw), at1, _, rfl, ⟨_, _, hq8⟩, q6, s.a, s.b, s.c, w0.2.1, n, rfl, hq7, sm.1, sm.2, ?_⟩
      refine ⟨_, rfl, _, _, rfl, rfl, (by show (1000003 : Int) ≠ 0; decide), sz3, fun t ht => ?_⟩
      exact k t _ (s1.trans (Same.new _ (Same.refl H1) ht)) upd_same
end
end K28
set_option maxHeartbeats 4000000
namespace K28
open PySem PySem.Spec PyProof.Rows L2 Z
theorem for_any2 {K : PySem.W.Frag} {Hb H : Hp} {a : Addr} {xs : List V} {g : TG} {tb : TS} {D : Ends} {σ : L2.St} (hq : SqA K Hb a xs) (hb : Same Hb H) (Pv : Nat → L2.St → Hp → Prop) (h0 : Pv 0 σ H) (hl : ∀ i σ' H', Pv i σ' H' → Same Hb H')
    (hs : ∀ i x σ H, xs[i]? = some x → Pv i σ H → g x σ H fun σ2 H2 => tb { D with nx := Pv (i + 1), ct := Pv (i + 1), bk := D.nx } σ2 H2) (hd : ∀ σ H, Pv xs.length σ H → D.nx σ H) :
    ((∃ xs, SqL K H a xs) ∧ ∃ W : Nat → Nat → L2.St → Hp → Prop, (∃ m, W 0 m σ H) ∧ ∀ i m σ H, W i m σ H →
      ((Itl K a).stop i H ∧ D.nx σ H) ∨ ((Itl K a).go i H ∧ ∃ N : L2.St → Hp → Prop, (∀ σ' H', N σ' H' → ∃ m', m' < m ∧ W (i + 1) m' σ' H') ∧ ∀ x H', (Itl K a).yld i H x H' → g x σ H' fun σ2 H2 => tb { D with nx := N, ct := N, bk := D.nx } σ2 H2)) ∨
    ((∃ xs, SqT K H a xs) ∧ ∃ W : Nat → Nat → L2.St → Hp → Prop, (∃ m, W 0 m σ H) ∧ ∀ i m σ H, W i m σ H →
      ((Itt K a).stop i H ∧ D.nx σ H) ∨ ((Itt K a).go i H ∧ ∃ N : L2.St → Hp → Prop, (∀ σ' H', N σ' H' → ∃ m', m' < m ∧ W (i + 1) m' σ' H') ∧ ∀ x H', (Itt K a).yld i H x H' → g x σ H' fun σ2 H2 => tb { D with nx := N, ct := N, bk := D.nx } σ2 H2)) := by
  rcases hq with h | h
  · exact .inl ⟨⟨xs, SqL.same h hb⟩, for_list Pv h0 (fun i σ' H' _ q => SqL.same h (hl i σ' H' q)) hs hd⟩
  · exact .inr ⟨⟨xs, SqT.same h hb⟩, for_tup Pv h0 (fun i σ' H' _ q => SqT.same h (hl i σ' H' q)) hs hd⟩
theorem giv_snoc {gs : List Gv} {i : Nat} {g : Gv} (h : gs[i]? = some g) : giv (gs.take (i + 1)) = gPut (giv (gs.take i)) g := by
  unfold giv
  rw [List.take_add_one, h, List.foldl_append]
  rfl
theorem gBad_snoc {gs : List Gv} {i : Nat} {g : Gv} (h : gs[i]? = some g) (h0 : gBad (gs.take i) = none) : gBad (gs.take (i + 1)) = if isName g.1 = true then none else some g.1 := by
  unfold gBad at h0 ⊢
  rw [List.take_add_one, h, List.find?_append]
  have e : (gs.take i).find? (fun g => !isName g.1) = none := Option.map_eq_none_iff.mp h0
  rw [e]
  cases q : isName g.1 <;> simp [q]
theorem gBad_take {gs : List Gv} {i : Nat} {x : Str} (h : gBad (gs.take i) = some x) : gBad gs = some x := by
  unfold gBad at h ⊢
  obtain ⟨g, hg, rfl⟩ := Option.map_eq_some_iff.mp h
  have e : gs.find? (fun g => !isName g.1) = some g := by
    rw [← List.take_append_drop i gs, List.find?_append, hg]
    rfl
  rw [e]
  rfl
section
variable {P : Program} {w : World} {K : PySem.W.Frag} {mg : Str → Option Value} {base : Heap}
theorem sc_first_cells : FnScope ["start", "told", "array", "cell", "value"] ["start"] (defScope s_first_cells) := ⟨rfl, rfl, rfl, by decide +kernel, rfl, by decide +kernel, by decide +kernel⟩
theorem ok_firstC {f : Addr} {fd : FuncData} (F : FnP K "first_cells" s_first_cells f fd) (hMODULUS : ∃ t, mg "MODULUS" = some (.int 1000003 t)) (dCkA : Dx P w K mg base 3 "check_name" ["array"] (spCkA K)) : FnOk P w K mg base (L2.CX P w) 4 f fd ["start"] (spFirstC K) := by
  refine F.ok sc_first_cells (fun vs H Q E h => ?_) (fun cdv A outer s H vs Q E hr h => ?_)
  · obtain ⟨l, xs, gs, rfl, _⟩ := h
    rfl
  · obtain ⟨l, xs, gs, rfl, hl, ds, len, lens, kb, k⟩ := h
    have hu := hu_of hr
    obtain ⟨tMODULUS, hMODULUS⟩ := hMODULUS
    refine ⟨_, (pss_cons (ps_set (i := 1) sc_first_cells.nd rfl (Or.inl rfl) pe_dnewK)
      (pss_cons (ps_for (passes_of rfl) rfl (pi_any (pv 0)) (pg_tup (by rfl) (pgs_cons (pg_name (i := 2) sc_first_cells.nd rfl (.inl rfl)) (pgs_cons (pg_name (i := 3) sc_first_cells.nd rfl (.inl rfl)) (pgs_cons (pg_name (i := 4) sc_first_cells.nd rfl (.inl rfl)) pgs_nil)))) (pss_cons (ps_expr (pe_dx (K := K) dCkA rfl hr (fun σ => passAt (takes_of rfl rfl rfl rfl) σ) (pa_cons (pv 2) pa_nil)))
      (pss_one (ps_dput hu (pe_set (pv 1) (pv 2) ⟨rfl, rfl, rfl, rfl⟩) (pv 3) (pe_op op_modN (pv 4) (pe_glob (v := .int 1000003) rfl hMODULUS ⟨tMODULUS, rfl⟩)) rfl))))
      (pss_one (ps_ret (pv 1))))), ?_⟩
    refine fun D hD => ?_
    have sD := Same.new (.dK []) (Same.refl H) hD
    obtain ⟨H0, eH0⟩ : ∃ X, X = upd H D (.dK []) := ⟨_, rfl⟩
    have eD0 : H0 D = some (.dK []) := by rw [eH0]; exact upd_same
    rw [← eH0] at sD
    rw [← eH0]
    refine normG (σ' := [some (.ref l), some (.ref D), none, none, none]) rfl ?_
    have lxs : xs.length = gs.length := by rw [ds.len, List.length_map]
    refine ⟨_, rfl, l, rfl, ?_⟩
    refine for_any2 (xs := xs) hl sD (fun i σ H' => ∃ v2 v3 v4 : Option V, σ = [some (.ref l), some (.ref D), v2, v3, v4] ∧ Nest (fun b => H b = none) H' D (giv (gs.take i)) (2 * i) ∧ Same H H' ∧ gBad (gs.take i) = none) ?_ ?_ ?_ ?_
    · exact ⟨none, none, none, rfl, ⟨[], eD0, hD, by simp, ⟨[], rfl, fun _ h => by cases h⟩, (fun x _ i => rfl), (fun x v h => (by cases h)), (fun x y d h _ => (by cases h))⟩, sD, rfl⟩
    · rintro i σ H' ⟨_, _, _, _, _, s1, _⟩
      exact s1
    · rintro i x σ H1 hx ⟨v2, v3, v4, rfl, ne, s1, gb⟩
      obtain ⟨g, hg, dg⟩ := (ds.to (.of s1)).map' hx
      obtain ⟨t, rfl, ht⟩ := dt_gv dg
      have hgs := lens g (List.mem_of_getElem? hg)
      have hi : i < xs.length := (List.getElem?_eq_some_iff.mp hx).1
      refine ⟨t, _, rfl, SqT.of ht, rfl, _, _, rfl, _, _, rfl, _, _, rfl, rfl, ?_⟩
      refine normG (σ' := [some (.ref l), some (.ref D), some (.str g.1), some (.int g.2.1), some (.int g.2.2)]) rfl ?_
      refine ⟨_, rfl, g.1, rfl, hgs, ?_⟩
      cases e : isName g.1 with
      | false =>
        refine Out.bad (if_neg (by rw [e]; simp)) ((kb g.1 ?_).same s1)
        exact gBad_take (i := i + 1) (by rw [gBad_snoc hg gb, e]; rfl)
      | true =>
        refine Out.ok (if_pos e) fun H2 s2 => ?_
        refine ⟨_, rfl, _, _, rfl, rfl, (by show (1000003 : Int) ≠ 0; decide), ?_⟩
        have ne2 := ne.same s2
        have s02 := s1.trans s2
        obtain ⟨kvs, hDk, _⟩ := id ne2
        have hP : ∀ e, H2 e = none → H e = none := fun e he => by
          cases q : H e with
          | none => rfl
          | some o =>
            rw [s02 _ _ q] at he
            cases he
        refine ⟨_, rfl, D, rfl, .inl ⟨kvs, .inl hDk⟩, _, rfl, _, _, _, g.1, rfl, ne2, ‹_›, by omega, hP, fun d H3 ⟨ne3, at3, fr3, _⟩ => ?_⟩
        obtain ⟨ics, h1, h2, h3, h4, h5, ne4, fr4⟩ := nest_put (i := g.2.1) (v := g.2.2.fmod 1000003) ne3 at3
        refine ⟨_, rfl, d, _, rfl, DPut.k (k := Sum.inl g.2.1) h1 (sz1m _ (by omega)), ?_⟩
        exact ⟨_, _, _, rfl, by rw [giv_snoc hg]; exact ne4.up (by omega), (fr3.trans fr4).base s02, by rw [gBad_snoc hg gb, e]; rfl⟩
    · rintro σ H' ⟨v2, v3, v4, rfl, ne, s1, gb⟩
      rw [lxs, List.take_length] at gb ne
      exact ⟨_, rfl, k gb D _ s1 ne⟩
end
end K28
set_option maxHeartbeats 4000000
namespace K28
open PySem PySem.Spec PyProof.Rows L2 Z
abbrev CRu (K : PySem.W.Frag) : Addr := He.ga K "Run"
def ruf (m : Int) (c : Addr) : List (Str × V) := putF "cells" (.ref c) (putF "many_works" (.int m) [])
structure RuTx (K : PySem.W.Frag) : Prop where
  cl : Cls K (CRu K)
  nM : NoAttr K (CRu K) "many_works"
  nC : NoAttr K (CRu K) "cells"
theorem ruf_m {m : Int} {c : Addr} : (ruf m c).lookup ("many_works" : Str) = some (.int m) := by
  unfold ruf
  rw [lookup_putF, if_neg (by decide +kernel), lookup_putF, if_pos rfl]
theorem ruf_c {m : Int} {c : Addr} : (ruf m c).lookup ("cells" : Str) = some (.ref c) := by
  unfold ruf
  rw [lookup_putF, if_pos rfl]
/-- a run that left these cells -/
def RunAt (K : PySem.W.Frag) (P : Addr → Prop) (H : Hp) (r : Addr) (m : Int) (f : Sto) (N : Nat) : Prop := ∃ dx a, H r = some (.ins (CRu K) dx (ruf m a)) ∧ Nest P H a f N
def spRuI (K : PySem.W.Frag) : Sp := fun vs H Q _ => ∃ (p dx : Addr) (m : Int) (a : Addr), vs = [.ref p, .int m, .ref a] ∧ H p = some (.ins (CRu K) dx []) ∧ ∀ H', H' p = some (.ins (CRu K) dx (ruf m a)) → Keep p H H' → Q .non H'
def rRu (K : PySem.W.Frag) (vs : List V) (H : Hp) (Q : VK) : Prop := ∃ (m : Int) (a : Addr), vs = [.int m, .ref a] ∧ ∀ p dx H', Same H H' → H' p = some (.ins (CRu K) dx (ruf m a)) → Q (.ref p) H'
theorem rRu_of {K : PySem.W.Frag} {H : Hp} {Q : VK} {E : XK} {p dx : Addr} {ws : List V} (h : rRu K ws H Q) (np : H p = none) (nd : H dx = none) (ne : dx ≠ p) : spRuI K (.ref p :: ws) (upd (upd H dx (.own p)) p (.ins (CRu K) dx [])) (fun v H2 => v = .non ∧ Q (.ref p) H2) E := by
  obtain ⟨m, a, rfl, k⟩ := h
  exact ⟨p, dx, m, a, rfl, upd_same, fun H' hp kp => ⟨rfl, k p dx H' (Same.made (Same.refl H) np nd kp) hp⟩⟩
def MkRu (P : Program) (w : World) (K : PySem.W.Frag) (mg : Str → Option Value) (base : Heap) : Prop := ∃ f fd, Mc P w K mg base 1 "Run" f fd ["self", "many_works", "cells"] (spRuI K) ∧ Binds K fd ["self", "many_works", "cells"] []
theorem pe_RuP {X : Cx} {K : PySem.W.Frag} {k : Nat} {E : L2.St → XK} {p pos : Pos} {e : Expr} {es : List Expr} {t : TA} (M : MkRu X.prog X.w K X.mg X.base) (hK : X.K = K) (hr : Room k X.A) (hx : ∀ σ, PassesAt (L2.CX X.prog X.w) X σ (E σ)) (ha : PA X (e :: es) t) (hjk : 2 ≤ k := by decide) (hg : Gl X "Run" := by rfl)
    (he : starEach (e :: es) X.env = (false, eval e X.env) :: starEach es X.env := by rfl) (hpl : (backTo pos (starEach es X.env)).any (·.1) = false := by rfl) :
    PE X (.Call (.Name "Run" p) (e :: es) [] pos) (fun σ H Q => t σ H fun vs H1 => rRu K vs H1 Q) := by
  obtain ⟨f, fd, M, b⟩ := M
  exact pe_mkR (R := fun vs H1 Q E => rRu K vs H1 Q) M hK b .nil (fun q nx nd ne => by rw [List.append_nil]; exact rRu_of q nx nd ne) hr hx ha hjk hg (by decide) he hpl
/-- what the works leave, one by one -/
def wStep (ls : List LpM) (n : Int) (f : Sto) (w : W3) : Sto := match stAt ls w with
  | some s => sPut f (cellOf s w.2.1 n).1 (cellOf s w.2.1 n).2 (some (wVal f s w.2.1 n))
  | none => f
def ran (ls : List LpM) (n : Int) (ws : List W3) (f : Sto) : Sto := ws.foldl (wStep ls n) f
theorem ran_snoc {ls : List LpM} {n : Int} {ws : List W3} {f : Sto} {i : Nat} {w : W3} {s : StM} (h : ws[i]? = some w) (hs : stAt ls w = some s) :
    ran ls n (ws.take (i + 1)) f = sPut (ran ls n (ws.take i) f) (cellOf s w.2.1 n).1 (cellOf s w.2.1 n).2 (some (wVal (ran ls n (ws.take i) f) s w.2.1 n)) := by
  unfold ran
  rw [List.take_add_one, h, List.foldl_append]
  show wStep ls n _ w = _
  unfold wStep
  rw [hs]
/-- run_program(program, n, start = ..) -/
def spRunP (K : PySem.W.Frag) : Sp := fun vs H Q E => ∃ (v nv : V) (ls : List LpM) (l : Addr) (xs : List V) (gs : List Gv), vs = [v, nv, .ref l] ∧ PrOb K H v ls ∧ ls.length ≤ 3 ∧ (∀ l ∈ ls, LpOk l) ∧ SqA K H l xs ∧ DTs H xs (gs.map gvD) ∧ gs.length ≤ 1000 ∧ (∀ g ∈ gs, g.1.length ≤ 1000) ∧
  ((IntV H nv false ∧ RzV K "BadSize" ["n"] [nv] H E) ∨ ∃ n : Int, nv = .int n ∧ (¬ (0 ≤ n ∧ n ≤ TOP) → RzV K "BadSize" ["n"] [.int n] H E) ∧
    (0 ≤ n ∧ n ≤ TOP → (20000 < tot ls n → RzV K "TooLong" ["many"] [.int (tot ls n)] H E) ∧ (tot ls n ≤ 20000 → (∀ x, gBad gs = some x → Rz K H E (.name x)) ∧
      (gBad gs = none → ∀ r H', Same H H' → RunAt K (fun b => H b = none) H' r ((works ls n).length : Int) (ran ls n (works ls n) (giv gs)) (2 * gs.length + 2 * (works ls n).length) → Q (.ref r) H'))))
section
variable {P : Program} {w : World} {K : PySem.W.Frag} {mg : Str → Option Value} {base : Heap}
theorem scRun__init__ : FnScope ["self", "many_works", "cells"] ["self", "many_works", "cells"] (defScope iRun__init__) := ⟨rfl, rfl, rfl, by decide +kernel, rfl, by decide +kernel, by decide +kernel⟩
theorem ok_RuI {fd : FuncData} (F : FnM K "Run" "__init__" "Run.__init__" iRun__init__ fd) (G : RuTx K) : FnOk P w K mg base (L2.CX P w) 1 (He.ma K (CRu K) "__init__") fd ["self", "many_works", "cells"] (spRuI K) := by
  refine F.ok scRun__init__ (fun vs H Q E h => ?_) (fun cdv A outer s H vs Q E hr h => ?_)
  · obtain ⟨p, dx, m, a, rfl, _⟩ := h
    rfl
  · obtain ⟨p, dx, m, a, rfl, hp, k⟩ := h
    refine ⟨_, (pss_cons (ps_fld (pv 0) (pv 1) rfl)
      (pss_one (ps_fld (pv 0) (pv 2) rfl))), ?_⟩
    refine ⟨_, rfl, _, rfl, p, _, dx, [], rfl, hp, G.cl, G.nM, (by show 0 < 1000; decide), ?_⟩
    refine ⟨_, rfl, _, rfl, p, _, dx, _, rfl, upd_same, G.cl, G.nC, (by show 1 < 1000; decide), ?_⟩
    exact k _ upd_same fun b o nb e => by rw [upd_ne nb, upd_ne nb]; exact e
theorem sc_run_program : FnScope ["program", "n", "start", "cells", "works", "work", "array", "cell", "value"] ["program", "n", "start"] (defScope s_run_program) := ⟨rfl, rfl, rfl, by decide +kernel, rfl, by decide +kernel, by decide +kernel⟩
theorem ok_runP {f : Addr} {fd : FuncData} {kws : List (Str × V)} (F : FunD K "run_program" "run_program" (defArgs s_run_program) (defBody s_run_program) (defScope s_run_program) [] kws f fd) (T : LwTx K mg) (MRu : MkRu P w K mg base) (dCkRun : Dx P w K mg base 5 "check_run" ["program", "n"] (spCkRun K)) (dWorksOf : Dn P w K mg base 5 "works_of" ["program", "n"] (spWorksOf K))
    (dFirstC : Dx P w K mg base 4 "first_cells" ["start"] (spFirstC K)) (dWriteOf : Dn P w K mg base 3 "write_of" ["program", "n", "work", "cells"] (spWriteOf K)) :
    FnOk P w K mg base (L2.CX P w) 6 f fd ["program", "n", "start"] (spRunP K) := by
  refine F.ok sc_run_program (fun vs H Q E h => ?_) (fun cdv A outer s H vs Q E hr h => ?_)
  · obtain ⟨v, nv, ls, l, xs, gs, rfl, _⟩ := h
    rfl
  · obtain ⟨v, nv, ls, l, xs, gs, rfl, ob, l3, ok, sq, dg, lg, lens, k⟩ := h
    have hu := hu_of hr
    refine ⟨_, (pss_cons (ps_expr (pe_dx (K := K) dCkRun rfl hr (fun σ => passAt (takes_of rfl rfl rfl rfl) σ) (pa_cons (pv 0) (pa_cons (pv 1) pa_nil))))
      (pss_cons (ps_set (i := 3) sc_run_program.nd rfl (Or.inl rfl) (pe_dx (K := K) dFirstC rfl hr (fun σ => passAt (takes_of rfl rfl rfl rfl) σ) (pa_cons (pv 2) pa_nil)))
      (pss_cons (ps_set (i := 4) sc_run_program.nd rfl (Or.inl rfl) (pe_dn dWorksOf hr (pa_cons (pv 0) (pa_cons (pv 1) pa_nil))))
      (pss_cons (ps_for (passes_of rfl) rfl (pi_list (pv 4)) (pg_name (i := 5) sc_run_program.nd rfl (.inl rfl)) (pss_cons (ps_asg (pe_dn dWriteOf hr (pa_cons (pv 0) (pa_cons (pv 1) (pa_cons (pv 5) (pa_cons (pv 3) pa_nil))))) (pg_tup (by rfl) (pgs_cons (pg_name (i := 6) sc_run_program.nd rfl (.inl rfl)) (pgs_cons (pg_name (i := 7) sc_run_program.nd rfl (.inl rfl)) (pgs_cons (pg_name (i := 8) sc_run_program.nd rfl (.inl rfl)) pgs_nil)))))
      (pss_one (ps_dput hu (pe_set (pv 3) (pv 6) ⟨rfl, rfl, rfl, rfl⟩) (pv 7) (pv 8) rfl))))
      (pss_one (ps_ret (pe_RuP (K := K) MRu rfl hr (fun σ => passAt (takes_of rfl rfl rfl rfl) σ) (pa_cons (pe_callB call_len_seq (by rfl) T.len PySem.boot_len (pa_cons (pv 4) pa_nil)) (pa_cons (pv 3) pa_nil))))))))), ?_⟩
    refine ⟨_, rfl, _, rfl, v, nv, ls, rfl, ob, l3, ok, ?_⟩
    rcases k with ⟨iv, k⟩ | ⟨n, rfl, k1, k2⟩
    · exact .inl ⟨iv, k⟩
    refine .inr ⟨n, rfl, k1, fun hn => ⟨(k2 hn).1, fun few H0 s0 => ?_⟩⟩
    obtain ⟨kb, k⟩ := (k2 hn).2 few
    have fewl : Few ls n := fun l hl => Int.le_trans (lpN_tot hl) few
    have wlen := works_few ok l3 fewl
    refine ⟨_, rfl, l, xs, gs, rfl, SqA.same sq s0, dg.to (.of s0), by omega, lens, fun x hx => (kb x hx).same s0, fun gb a H1 s1 ne1 => ?_⟩
    have k := k gb
    have s01 := s0.trans s1
    have nn : ∀ b, H0 b = none → H b = none := fun b e => by
      cases q : H b with
      | none => rfl
      | some o =>
        rw [s0 _ _ q] at e
        cases e
    have ne1 : Nest (fun b => H b = none) H1 a (giv gs) (2 * gs.length) := ne1.imp fun b e _ => nn b e
    refine normG (σ' := [some v, some (.int n), some (.ref l), some (.ref a), none, none, none, none, none]) rfl ?_
    refine ⟨_, rfl, _, rfl, v, ls, n, rfl, ob.same s01, l3, ok, fewl, fun W H2 ws s2 hW eW dW => ?_⟩
    have s02 := s01.trans s2
    have lws : ws.length = (works ls n).length := by rw [dW.len, List.length_map]
    have hWH : H W = none := by
      cases q : H W with
      | none => rfl
      | some o =>
        rw [s01 _ _ q] at hW
        cases hW
    have ne2 := (ne1.imp (P' := fun b => H b = none ∧ b ≠ W) fun b e q => ⟨e, fun z => by
      rw [z] at q
      exact q hW⟩).same s2
    refine normG (σ' := [some v, some (.int n), some (.ref l), some (.ref a), some (.ref W), none, none, none, none]) rfl ?_
    refine ⟨_, rfl, W, rfl, ⟨_, SqL.of eW⟩, ?_⟩
    refine for_list (K := K) (xs := ws) (fun i σ H' => ∃ v5 v6 v7 v8 : Option V, σ = [some v, some (.int n), some (.ref l), some (.ref a), some (.ref W), v5, v6, v7, v8] ∧
        Nest (fun b => H b = none ∧ b ≠ W) H' a (ran ls n ((works ls n).take i) (giv gs)) (2 * gs.length + 2 * i) ∧ Fr (fun b => H b = none ∧ b ≠ W) H2 H')
      ⟨none, none, none, none, rfl, ne2, .refl⟩ (fun i σ H' _ z => by
        obtain ⟨_, _, _, _, _, _, fr⟩ := z
        exact SqL.of (fr.keep _ _ eW fun z => z.2 rfl)) ?_ ?_
    · rintro i wv σ H3 hwv ⟨v5, v6, v7, v8, rfl, ne3, fr3⟩
      obtain ⟨w0, hw, dw⟩ := dW.map' hwv
      obtain ⟨tw, rfl, htw⟩ := dt_w (dw.to fr3.ms.t)
      obtain ⟨j, q, l0, s, hj, hq, hl, hc, hs⟩ := works_mem (List.mem_of_getElem? hw)
      have hst := stAt_of hj hq hl hs
      have okl := ok l0 (List.mem_of_getElem? hl)
      have oks : StOk s := by
        have := okl
        obtain ⟨_, _, _, _, _, _, _, _, _, _, _, _, _, _, _, _, _, okS⟩ := this
        exact okS s (List.mem_of_getElem? hs)
      have hi : i < (works ls n).length := (List.getElem?_eq_some_iff.mp hw).1
      have s23 : Same H H3 := fun b o e => fr3.keep _ _ (s02 _ _ e) fun z => by
        rw [z.1] at e
        cases e
      refine normG (σ' := [some v, some (.int n), some (.ref l), some (.ref a), some (.ref W), some (.ref tw), v6, v7, v8]) rfl ?_
      refine ⟨_, rfl, _, rfl, _, rfl, _, rfl, v, ls, n, tw, w0, _, a, _, _, j, q, l0, s, rfl, ob.same s23, htw, hj, hq, hl, hs, oks, ne3, fun t H4 s4 ht => ?_⟩
      refine ⟨t, _, rfl, SqT.of ht, rfl, _, _, rfl, _, _, rfl, _, _, rfl, rfl, ?_⟩
      obtain ⟨val, hval⟩ : ∃ val, val = wVal (ran ls n ((works ls n).take i) (giv gs)) s w0.2.1 n := ⟨_, rfl⟩
      rw [← hval]
      have ne4 := ne3.same s4
      refine norm (σ' := [some v, some (.int n), some (.ref l), some (.ref a), some (.ref W), some (.ref tw), some (.str (cellOf s w0.2.1 n).1), some (.int (cellOf s w0.2.1 n).2), some (.int val)]) rfl ?_
      obtain ⟨kvs, hDk, _⟩ := id ne4
      have hWn : H4 W ≠ none := by
        rw [s4 _ _ (fr3.keep _ _ eW fun z => z.2 rfl)]
        exact fun z => by cases z
      have hP : ∀ e, H4 e = none → H e = none ∧ e ≠ W := fun e he => by
        refine ⟨?_, fun z => hWn (z ▸ he)⟩
        cases q : H e with
        | none => rfl
        | some o =>
          rw [s4 _ _ (s23 _ _ q)] at he
          cases he
      refine ⟨_, rfl, _, rfl, a, rfl, .inl ⟨kvs, .inl hDk⟩, _, rfl, _, _, _, (cellOf s w0.2.1 n).1, rfl, ne4, oks.1.1, by omega, hP, fun d H5 ⟨ne5, at5, fr5, _⟩ => ?_⟩
      obtain ⟨ics, h1, h2, h3, h4, h5, ne6, fr6⟩ := nest_put (i := (cellOf s w0.2.1 n).2) (v := val) ne5 at5
      refine ⟨_, rfl, d, _, rfl, DPut.k (k := Sum.inl (cellOf s w0.2.1 n).2) h1 (sz1m _ (by omega)), ?_⟩
      refine ⟨_, _, _, _, rfl, ?_, fr3.trans ((Fr.same s4).trans (fr5.trans fr6))⟩
      rw [ran_snoc hw hst, ← hval]
      exact ne6.up (by omega)
    · rintro σ H3 ⟨v5, v6, v7, v8, rfl, ne3, fr3⟩
      rw [lws, List.take_length] at ne3
      have eW3 := fr3.keep _ _ eW fun z => z.2 rfl
      refine ⟨_, rfl, W, _, rfl, .inl (SqL.of eW3), _, rfl, _, _, rfl, fun p dx H4 s4 hp => ?_⟩
      have s03 : Same H H3 := fun b o e => fr3.keep _ _ (s02 _ _ e) fun z => by
        rw [z.1] at e
        cases e
      refine k p H4 (s03.trans s4) ⟨dx, a, ?_, (ne3.imp fun b z _ => z.1).same s4⟩
      rw [← lws]
      exact hp
end
end K28
set_option maxHeartbeats 4000000
namespace K28
open PySem PySem.Spec PyProof.Rows L2 Z
def spRuV (K : PySem.W.Frag) : Sp := fun vs H Q E => ∃ (P : Addr → Prop) (r : Addr) (m : Int) (f : Sto) (N : Nat) (x : Str) (i : Int), vs = [.ref r, .str x, .int i] ∧ RunAt K P H r m f N ∧ x.length ≤ 1000 ∧
  (isName x = false → Rz K H E (.name x)) ∧ (isName x = true → ∀ H', Same H H' → Q (.int (held f x i)) H')
def ivD (g : Int → Option Int) (i : Int) : PyData := .tuple [.int i, .int ((g i).getD 0)]
def spRuC (K : PySem.W.Frag) : Sp := fun vs H Q E => ∃ (P : Addr → Prop) (r : Addr) (m : Int) (f : Sto) (N : Nat) (x : Str), vs = [.ref r, .str x] ∧ RunAt K P H r m f N ∧ N ≤ 100000 ∧ x.length ≤ 1000 ∧
  (isName x = false → Rz K H E (.name x)) ∧ (isName x = true → ∀ t H' xs (ks : List Int), Same H H' → H' t = some (.tup xs) → DTs H' xs (ks.map (ivD (f x))) → ks.length ≤ N → ks.Nodup → ks.Pairwise (· ≤ ·) → (∀ i, i ∈ ks ↔ f x i ≠ none) → Q (.ref t) H')
def spFirstD (K : PySem.W.Frag) : Sp := fun vs H Q _ => ∃ (P1 P2 : Addr → Prop) (r1 r2 : Addr) (m1 m2 : Int) (f1 f2 : Sto) (N : Nat), vs = [.ref r1, .ref r2] ∧ RunAt K P1 H r1 m1 f1 N ∧ RunAt K P2 H r2 m2 f2 N ∧ N ≤ 2000 ∧
  (∀ x i, (f1 x i ≠ none ∨ f2 x i ≠ none) → held f1 x i = held f2 x i) ∧ ∀ H', Same H H' → Q .non H'
theorem RunAt.same {K : PySem.W.Frag} {P : Addr → Prop} {H H' : Hp} {r : Addr} {m : Int} {f : Sto} {N : Nat} (h : RunAt K P H r m f N) (s : Same H H') : RunAt K P H' r m f N := by
  obtain ⟨dx, a, h1, h2⟩ := h
  exact ⟨dx, a, s _ _ h1, h2.same s⟩
theorem mem_keys {g : Int → Option Int} {ics : List (Key × V)} {ks : List Int} (h : ∀ i, valV ics (.inl i) = (g i).map V.int) (e : ics.map (·.1) = ks.map Sum.inl) (i : Int) : i ∈ ks ↔ g i ≠ none := by
  have h1 : (valV ics (.inl i)).isSome = true ↔ (Sum.inl i : Key) ∈ ks.map Sum.inl := by rw [keys_in, e]
  rw [h i] at h1
  have h2 : (Sum.inl i : Key) ∈ ks.map Sum.inl ↔ i ∈ ks := ⟨fun z => by
    obtain ⟨j, hj, e⟩ := List.mem_map.mp z
    cases e
    exact hj, fun z => List.mem_map.mpr ⟨i, z, rfl⟩⟩
  rw [← h2, ← h1]
  cases g i <;> simp
/-- cells.get(x, {}): the array's dict, or a new one -/
theorem nest_get {P : Addr → Prop} {H : Hp} {a : Addr} {f : Sto} {N : Nat} (h : Nest P H a f N) (x : Str) {d : Addr} (hd : H d = none) : ∃ (kvs : List (Key × V)) (e : Addr) (ics : List (Key × V)) (ks : List Int), H a = some (.dK kvs) ∧ (valV kvs (.inr x)).getD (.ref d) = .ref e ∧ upd H d (.dK []) e = some (.dK ics) ∧
    ics.length ≤ N ∧ (∀ i, valV ics (.inl i) = (f x i).map V.int) ∧ ics.map (·.1) = ks.map Sum.inl ∧ ks.Nodup ∧ ∀ i, i ∈ ks ↔ f x i ≠ none := by
  obtain ⟨kvs, ha, _, nr⟩ := h
  cases e : valV kvs (.inr x) with
  | none =>
    refine ⟨kvs, d, [], [], ha, by rw [e]; rfl, upd_same, Nat.zero_le _, fun i => by rw [nr.no x e i]; rfl, rfl, List.nodup_nil, fun i => ?_⟩
    rw [nr.no x e i]
    simp
  | some v =>
    obtain ⟨q, rfl, _, _, ics, h1, h2, h3, ks, h4, h5⟩ := nr.yes x v e
    have nq : q ≠ d := ne_of_none h1 hd
    exact ⟨kvs, q, ics, ks, ha, by rw [e]; rfl, by rw [upd_ne nq]; exact h1, h2, h3, h4, h5, mem_keys h3 h4⟩
section
variable {P : Program} {w : World} {K : PySem.W.Frag} {mg : Str → Option Value} {base : Heap}
theorem scRunvalue_of : FnScope ["self", "array", "cell"] ["self", "array", "cell"] (defScope iRunvalue_of) := ⟨rfl, rfl, rfl, by decide +kernel, rfl, by decide +kernel, by decide +kernel⟩
theorem ok_RuV {fd : FuncData} (F : FnM K "Run" "value_of" "Run.value_of" iRunvalue_of fd) (G : RuTx K) (dValIn : Dx P w K mg base 4 "value_in" ["cells", "array", "cell"] (spValIn K)) : FnOk P w K mg base (L2.CX P w) 5 (He.ma K (CRu K) "value_of") fd ["self", "array", "cell"] (spRuV K) := by
  refine F.ok scRunvalue_of (fun vs H Q E h => ?_) (fun cdv A outer s H vs Q E hr h => ?_)
  · obtain ⟨PP, r, m, f, N, x, i, rfl, _⟩ := h
    rfl
  · obtain ⟨PP, r, m, f, N, x, i, rfl, ⟨dx, a, hr0, ne⟩, hx, k1, k2⟩ := h
    refine ⟨_, (pss_one (ps_ret (pe_dx (K := K) dValIn rfl hr (fun σ => passAt (takes_of rfl rfl rfl rfl) σ) (pa_cons (pe_fld (pv 0) rfl) (pa_cons (pv 1) (pa_cons (pv 2) pa_nil)))))), ?_⟩
    exact ⟨_, rfl, r, _, dx, _, _, rfl, hr0, G.cl, G.nC, ruf_c, _, rfl, _, rfl, PP, a, x, i, f, N, rfl, ne, hx, k1, k2⟩
theorem scRuncells_of : FnScope ["self", "array", "cells", "cell"] ["self", "array"] (defScope iRuncells_of) := ⟨rfl, rfl, rfl, by decide +kernel, rfl, by decide +kernel, by decide +kernel⟩
theorem ok_RuC {fd : FuncData} (F : FnM K "Run" "cells_of" "Run.cells_of" iRuncells_of fd) (T : LwTx K mg) (G : RuTx K) (dCkA : Dx P w K mg base 3 "check_name" ["array"] (spCkA K)) : FnOk P w K mg base (L2.CX P w) 4 (He.ma K (CRu K) "cells_of") fd ["self", "array"] (spRuC K) := by
  refine F.ok scRuncells_of (fun vs H Q E h => ?_) (fun cdv A outer s H vs Q E hr h => ?_)
  · obtain ⟨PP, r, m, f, N, x, rfl, _⟩ := h
    rfl
  · obtain ⟨PP, r, m, f, N, x, rfl, ⟨dx, a, hr0, ne⟩, hN, hx, k1, k2⟩ := h
    have hu := hu_of hr
    refine ⟨_, (pss_cons (ps_expr (pe_dx (K := K) dCkA rfl hr (fun σ => passAt (takes_of rfl rfl rfl rfl) σ) (pa_cons (pv 1) pa_nil)))
      (pss_cons (ps_set (i := 2) scRuncells_of.nd rfl (Or.inr rfl) (pe_dget2 hu (pe_fldK (K := K) rfl (pv 0)) (pv 1) pe_dnewK ⟨rfl, rfl, rfl, rfl⟩))
      (pss_one (ps_ret (pe_callTy call_tuple_of (by rfl) T.tuple (by decide +kernel) (pa_cons (pe_lc (own := [("cell", 3)]) (g := gName 3) (tt := tYes) rfl scRuncells_of.nd (pi_list (pe_callB (cr_sortedDA rfl) (by rfl) T.sorted (by decide +kernel) (pa_cons (pv 2) pa_nil))) (blkOk_by (N := ["self", "array", "cells", "cell"]) (sc := defScope iRuncells_of) (by decide +kernel)) (fun _ _ _ _ _ => (pg_name (i := 3) scRuncells_of.nd rfl (.inl rfl))) (fun _ _ _ _ _ => pts_nil) (fun _ _ _ _ _ => (pe_tup (pa_cons (pv 3) (pa_cons (pe_dget hu (pv 2) (pv 3) (fun _ _ => rfl)) pa_nil))))) pa_nil)))))), ?_⟩
    refine ⟨_, rfl, x, rfl, hx, ?_⟩
    cases e : isName x with
    | false => exact Out.bad (if_neg (by rw [e]; simp)) (k1 e)
    | true =>
      refine Out.ok (if_pos e) fun H1 s1 => ?_
      have k2 := k2 e
      have ne1 := ne.same s1
      obtain ⟨kvs0, ha0, _⟩ := id ne1
      refine ⟨_, rfl, r, _, dx, _, _, rfl, s1 _ _ hr0, G.cl, G.nC, ruf_c, a, rfl, .inl ⟨kvs0, .inl ha0⟩, _, rfl, fun d hd => ?_⟩
      obtain ⟨kvs, q, ics, ks, ha, eq, hq, lics, vics, kics, nks, mks⟩ := nest_get ne1 x hd
      have sd := Same.new (.dK []) (Same.refl H1) hd
      refine ⟨_, DGet.k (k := Sum.inr x) (sd _ _ ha), ?_⟩
      rw [eq]
      refine normG (σ' := [some (.ref r), some (.str x), some (.ref q), none]) rfl ?_
      refine ⟨_, rfl, q, ics, ks, rfl, .inl hq, kics, fun ys l py srt hl => ?_⟩
      have sl := Same.new (.lst (ys.map V.int)) (Same.refl _) hl
      refine ⟨l, rfl, ⟨_, SqL.of upd_same⟩, fun D hD => ?_⟩
      obtain ⟨H3, eH3⟩ : ∃ X, X = upd (upd H1 d (.dK [])) l (.lst (ys.map V.int)) := ⟨_, rfl⟩
      have el3 : H3 l = some (.lst (ys.map V.int)) := by rw [eH3]; exact upd_same
      rw [← eH3] at hD sl
      rw [← eH3]
      have eq3 := sl _ _ hq
      have s13 := s1.trans (sd.trans sl)
      have nys : ys.Nodup := py.nodup_iff.mpr nks
      have lys : ys.length = ks.length := py.length_eq
      have lks : ks.length = ics.length := by
        have := congrArg List.length kics
        rw [List.length_map, List.length_map] at this
        exact this.symm
      refine lc_list (K := K) (xs := ys.map V.int) (fun j Hc => ∃ us, Hc D = some (.lst us) ∧ DTs Hc us ((ys.take j).map (ivD (f x))) ∧ Same H3 Hc) ⟨[], upd_same, .nil, Same.new _ (Same.refl _) hD⟩ (fun j Hc _ z => by
        obtain ⟨_, _, _, sc⟩ := z
        exact SqL.of (sc _ _ el3)) ?_ ?_
      · rintro j cv Hc hcv ⟨us, eD, dD, sc⟩
        rw [List.getElem?_map] at hcv
        obtain ⟨c, hc, rfl⟩ := Option.map_eq_some_iff.mp hcv
        have hj : j < ys.length := (List.getElem?_eq_some_iff.mp hc).1
        have cin : f x c ≠ none := (mks c).mp (py.mem_iff.mp (List.mem_of_getElem? hc))
        obtain ⟨u, hu2⟩ : ∃ u, f x c = some u := by
          cases z : f x c with
          | none => exact absurd z cin
          | some u => exact ⟨u, rfl⟩
        have gt := DGet.k (k := Sum.inl c) (sc _ _ eq3)
        rw [vics c, hu2] at gt
        refine ⟨rfl, yes_of ?_⟩
        refine ⟨_, rfl, _, rfl, _, rfl, q, _, rfl, gt, sz2, fun t ht => ?_⟩
        have st := Same.new (.tup [.int c, .int u]) (Same.refl Hc) ht
        have tsU : TSame (upd Hc t (.tup [.int c, .int u])) (upd (upd Hc t (.tup [.int c, .int u])) D (.lst (us ++ [.ref t]))) := .updL (st _ _ eD)
        refine ⟨us, st _ _ eD, sz1m _ (by rw [dD.len, List.length_map, List.length_take]; omega), us ++ [.ref t], upd_same, ?_, fun b o eb => ?_⟩
        · rw [List.take_add_one, hc]
          refine (dD.to ((TSame.of st).trans tsU)).snoc ?_
          unfold ivD
          rw [hu2]
          exact .tup (tsU _ _ upd_same) (.cons (.int _) (.cons (.int _) .nil))
        · rw [upd_ne (ne_of_none eb hD)]
          exact st _ _ (sc _ _ eb)
      · rintro Hc ⟨us, eD, dD, sc⟩
        rw [List.length_map, List.take_length] at dD
        refine ⟨D, _, rfl, .inl ⟨SqL.of eD, fun t ht => ?_⟩⟩
        have st := Same.new (.tup us) (Same.refl Hc) ht
        exact k2 t _ us ys (s13.trans (sc.trans st)) upd_same (dD.to (.of st)) (by omega) nys srt fun i => by rw [py.mem_iff, mks i]
theorem sc_first_difference : FnScope ["one", "other", "array", "cell"] ["one", "other"] (defScope s_first_difference) := ⟨rfl, rfl, rfl, by decide +kernel, rfl, by decide +kernel, by decide +kernel⟩
theorem ok_firstD {f : Addr} {fd : FuncData} (F : FnP K "first_difference" s_first_difference f fd) (T : LwTx K mg) (G : RuTx K) (dHeld : Dn P w K mg base 2 "held_value" ["cells", "array", "cell"] spHeld) : FnOk P w K mg base CX0 3 f fd ["one", "other"] (spFirstD K) := by
  refine F.ok sc_first_difference (fun vs H Q E h => ?_) (fun cdv A outer s H vs Q E hr h => ?_)
  · obtain ⟨P1, P2, r1, r2, m1, m2, f1, f2, N, rfl, _⟩ := h
    rfl
  · obtain ⟨P1, P2, r1, r2, m1, m2, f1, f2, N, rfl, ⟨dx1, a1, hr1, ne1⟩, ⟨dx2, a2, hr2, ne2⟩, hN, heq, k⟩ := h
    have hu := hu_of hr
    refine ⟨_, PSs.nox (pss_cons (ps_for PassesOwn.never rfl (pi_list (pe_callB (cr_sortedTx rfl) (by rfl) T.sorted (by decide +kernel) (pa_cons (pe_callTy (cr_setTx rfl) (by rfl) T.set (by decide +kernel) (pa_cons (pe_lst (pa_starD rfl (pe_fldK (K := K) rfl (pv 0)) (pa_starD rfl (pe_fldK (K := K) rfl (pv 1)) pa_nil))) pa_nil)) pa_nil))) (pg_name (i := 2) sc_first_difference.nd rfl (.inl rfl)) (pss_one (ps_for PassesOwn.never rfl (pi_list (pe_callB (cr_sortedSA rfl) (by rfl) T.sorted (by decide +kernel) (pa_cons (pe_callTy (cr_setI rfl) (by rfl) T.set (by decide +kernel) (pa_cons (pe_lst (pa_starD rfl (pe_dget2 hu (pe_fldK (K := K) rfl (pv 0)) (pv 2) pe_dnewK ⟨rfl, rfl, rfl, rfl⟩) (pa_starD rfl (pe_dget2 hu (pe_fldK (K := K) rfl (pv 1)) (pv 2) pe_dnewK ⟨rfl, rfl, rfl, rfl⟩) pa_nil))) pa_nil)) pa_nil))) (pg_name (i := 3) sc_first_difference.nd rfl (.inl rfl)) (pss_one (ps_if (pt_cmpR op_ne (pe_dn dHeld hr (pa_cons (pe_fldK (K := K) rfl (pv 0)) (pa_cons (pv 2) (pa_cons (pv 3) pa_nil)))) (pe_dn dHeld hr (pa_cons (pe_fldK (K := K) rfl (pv 1)) (pa_cons (pv 2) (pa_cons (pv 3) pa_nil)))) (nomark _)) (pss_one (ps_ret (pe_tup (pa_cons (pv 2) (pa_cons (pv 3) pa_nil))))) pss_nil)))))
      (pss_one (ps_ret pe_non))), ?_⟩
    obtain ⟨kv1, ha1, _, nr1⟩ := id ne1
    obtain ⟨kv2, ha2, _, nr2⟩ := id ne2
    obtain ⟨xs1, ek1, nm1⟩ := nr1.keys
    obtain ⟨xs2, ek2, nm2⟩ := nr2.keys
    refine ⟨_, rfl, r1, _, dx1, _, _, rfl, hr1, G.cl, G.nC, ruf_c, a1, kv1, rfl, .inl ha1, _, rfl, r2, _, dx2, _, _, rfl, hr2, G.cl, G.nC, ruf_c, a2, kv2, rfl, .inl ha2, ?_⟩
    have eK : (kv1.map fun kv => kV kv.1) ++ ((kv2.map fun kv => kV kv.1) ++ []) = (xs1 ++ xs2).map V.str := by
      have q : ∀ (kv : List (Key × V)) (xs : List Str), kv.map (·.1) = xs.map Sum.inr → (kv.map fun kv => kV kv.1) = xs.map V.str := fun kv xs e => by
        have z := congrArg (List.map kV) e
        rw [List.map_map, List.map_map] at z
        exact z
      rw [q _ _ ek1, q _ _ ek2, List.append_nil, List.map_append]
    have l1 : xs1.length = kv1.length := by
      have := congrArg List.length ek1
      rw [List.length_map, List.length_map] at this
      exact this.symm
    have l2 : xs2.length = kv2.length := by
      have := congrArg List.length ek2
      rw [List.length_map, List.length_map] at this
      exact this.symm
    have ll1 := nr1.len
    have ll2 := nr2.len
    have hsz : ((kv1.map fun kv : Key × V => kV kv.1) ++ ((kv2.map fun kv : Key × V => kV kv.1) ++ [])).length ≤ sizeLine := by
      rw [eK, List.length_map, List.length_append]
      exact Nat.le_of_lt (sz1m _ (by omega))
    refine ⟨hsz, fun L hL => ?_⟩
    obtain ⟨H1, eH1⟩ : ∃ X, X = upd H L (.lst ((kv1.map fun kv => kV kv.1) ++ ((kv2.map fun kv => kV kv.1) ++ []))) := ⟨_, rfl⟩
    have s1 : Same H H1 := by rw [eH1]; exact Same.new _ (Same.refl H) hL
    have eL1 : H1 L = some (.lst ((xs1 ++ xs2).map V.str)) := by rw [eH1, ← eK]; exact upd_same
    rw [← eH1]
    refine ⟨L, xs1 ++ xs2, rfl, SqL.of eL1, ?_, fun S hS => ?_⟩
    · show (xs1 ++ xs2).length + 1 < 4096
      rw [List.length_append]
      omega
    have s2 := Same.new (TxO w S (xs1 ++ xs2).reverse) (Same.refl H1) hS
    refine ⟨S, _, rfl, upd_same, by rw [List.length_reverse, List.length_append]; omega, fun ys R nys mys srt hR => ?_⟩
    have s3 := Same.new (.lst (ys.map V.str)) (Same.refl _) hR
    obtain ⟨H3, eH3⟩ : ∃ X, X = upd (upd H1 S (TxO w S (xs1 ++ xs2).reverse)) R (.lst (ys.map V.str)) := ⟨_, rfl⟩
    have eR3 : H3 R = some (.lst (ys.map V.str)) := by rw [eH3]; exact upd_same
    have s03 : Same H H3 := by rw [eH3]; exact s1.trans (s2.trans s3)
    refine ⟨R, rfl, ⟨_, SqL.of upd_same⟩, ?_⟩
    have nmy : ∀ y ∈ ys, isName y = true := fun y hy => by
      have z := (mys y).mp hy
      rw [List.mem_reverse, List.mem_append] at z
      rcases z with z | z
      · exact nm1 y z
      · exact nm2 y z
    refine for_list (K := K) (xs := ys.map V.str) (fun i σ H' => ∃ v2 v3 : Option V, σ = [some (.ref r1), some (.ref r2), v2, v3] ∧ Same H3 H') ⟨none, none, rfl, by rw [eH3]; exact .refl _⟩ (fun i σ H' _ z => by
      obtain ⟨_, _, _, sc⟩ := z
      exact SqL.of (sc _ _ eR3)) ?_ ?_
    · rintro i yv σ H4 hyv ⟨v2, v3, rfl, s4⟩
      rw [List.getElem?_map] at hyv
      obtain ⟨y, hy, rfl⟩ := Option.map_eq_some_iff.mp hyv
      have s04 := s03.trans s4
      have ny := nmy y (List.mem_of_getElem? hy)
      refine normG (σ' := [some (.ref r1), some (.ref r2), some (.str y), v3]) rfl ?_
      refine ⟨_, rfl, r1, _, dx1, _, _, rfl, s04 _ _ hr1, G.cl, G.nC, ruf_c, a1, rfl, .inl ⟨kv1, .inl (s04 _ _ ha1)⟩, _, rfl, fun d1 hd1 => ?_⟩
      obtain ⟨kw1, q1, ics1, ks1, hw1, eq1, hq1, lq1, vq1, kq1, nq1, mq1⟩ := nest_get (ne1.same s04) y hd1
      have sd1 := Same.new (.dK []) (Same.refl H4) hd1
      refine ⟨_, DGet.k (k := Sum.inr y) (sd1 _ _ hw1), ?_⟩
      rw [eq1]
      obtain ⟨H5, eH5⟩ : ∃ X, X = upd H4 d1 (.dK []) := ⟨_, rfl⟩
      rw [← eH5] at hq1 sd1
      rw [← eH5]
      refine ⟨q1, ics1, rfl, .inl hq1, ?_⟩
      have s05 := s04.trans sd1
      refine ⟨_, rfl, r2, _, dx2, _, _, rfl, s05 _ _ hr2, G.cl, G.nC, ruf_c, a2, rfl, .inl ⟨kv2, .inl (s05 _ _ ha2)⟩, _, rfl, fun d2 hd2 => ?_⟩
      obtain ⟨kw2, q2, ics2, ks2, hw2, eq2, hq2, lq2, vq2, kq2, nq2, mq2⟩ := nest_get (ne2.same s05) y hd2
      have sd2 := Same.new (.dK []) (Same.refl H5) hd2
      refine ⟨_, DGet.k (k := Sum.inr y) (sd2 _ _ hw2), ?_⟩
      rw [eq2]
      obtain ⟨H6, eH6⟩ : ∃ X, X = upd H5 d2 (.dK []) := ⟨_, rfl⟩
      rw [← eH6] at hq2 sd2
      rw [← eH6]
      refine ⟨q2, ics2, rfl, .inl hq2, ?_⟩
      have s06 := s05.trans sd2
      have eK2 : (ics1.map fun kv => kV kv.1) ++ ((ics2.map fun kv => kV kv.1) ++ []) = (ks1 ++ ks2).map V.int := by
        have q : ∀ (kv : List (Key × V)) (xs : List Int), kv.map (·.1) = xs.map Sum.inl → (kv.map fun kv => kV kv.1) = xs.map V.int := fun kv xs e => by
          have z := congrArg (List.map kV) e
          rw [List.map_map, List.map_map] at z
          exact z
        rw [q _ _ kq1, q _ _ kq2, List.append_nil, List.map_append]
      have lk1 : ks1.length = ics1.length := by
        have := congrArg List.length kq1
        rw [List.length_map, List.length_map] at this
        exact this.symm
      have lk2 : ks2.length = ics2.length := by
        have := congrArg List.length kq2
        rw [List.length_map, List.length_map] at this
        exact this.symm
      have hsz2 : ((ics1.map fun kv : Key × V => kV kv.1) ++ ((ics2.map fun kv : Key × V => kV kv.1) ++ [])).length ≤ sizeLine := by
        rw [eK2, List.length_map, List.length_append]
        exact Nat.le_of_lt (sz1m _ (by omega))
      refine ⟨hsz2, fun M hM => ?_⟩
      obtain ⟨H7, eH7⟩ : ∃ X, X = upd H6 M (.lst ((ics1.map fun kv => kV kv.1) ++ ((ics2.map fun kv => kV kv.1) ++ []))) := ⟨_, rfl⟩
      have s7 : Same H6 H7 := by rw [eH7]; exact Same.new _ (Same.refl H6) hM
      have eM7 : H7 M = some (.lst ((ks1 ++ ks2).map V.int)) := by rw [eH7, ← eK2]; exact upd_same
      rw [← eH7]
      refine ⟨M, ks1 ++ ks2, rfl, SqL.of eM7, ?_, fun S2 c2 hS2 hc2 => ?_⟩
      · show (ks1 ++ ks2).length + 1 < 4096
        rw [List.length_append]
        omega
      have s8 := Same.new (SetO w S2 (fun j => decide (j ∈ ks1 ++ ks2)) c2) (Same.refl H7) hS2
      refine ⟨S2, _, c2, rfl, upd_same, by rw [List.length_append] at hc2; omega, fun zs R2 nzs mzs srt2 lzs hR2 => ?_⟩
      have s9 := Same.new (.lst (zs.map V.int)) (Same.refl _) hR2
      obtain ⟨H9, eH9⟩ : ∃ X, X = upd (upd H7 S2 (SetO w S2 (fun j => decide (j ∈ ks1 ++ ks2)) c2)) R2 (.lst (zs.map V.int)) := ⟨_, rfl⟩
      have eR9 : H9 R2 = some (.lst (zs.map V.int)) := by rw [eH9]; exact upd_same
      have s79 : Same H7 H9 := by rw [eH9]; exact s8.trans s9
      have s09 : Same H H9 := s06.trans (s7.trans s79)
      refine ⟨R2, rfl, ⟨_, SqL.of upd_same⟩, ?_⟩
      refine for_list (K := K) (xs := zs.map V.int) (fun j σ H' => ∃ v3 : Option V, σ = [some (.ref r1), some (.ref r2), some (.str y), v3] ∧ Same H9 H') ⟨v3, rfl, by rw [eH9]; exact .refl _⟩ (fun j σ H' _ z => by
        obtain ⟨_, _, sc⟩ := z
        exact SqL.of (sc _ _ eR9)) ?_ ?_
      · rintro j zv σ Ha hzv ⟨w3, rfl, sa⟩
        rw [List.getElem?_map] at hzv
        obtain ⟨z, hz, rfl⟩ := Option.map_eq_some_iff.mp hzv
        have s0a := s09.trans sa
        have kz : f1 y z ≠ none ∨ f2 y z ≠ none := by
          have q := (mzs z).mp (List.mem_of_getElem? hz)
          have q := of_decide_eq_true q
          rw [List.mem_append] at q
          exact q.imp (mq1 z).mp (mq2 z).mp
        refine normG (σ' := [some (.ref r1), some (.ref r2), some (.str y), some (.int z)]) rfl ?_
        refine ⟨_, rfl, r1, _, dx1, _, _, rfl, s0a _ _ hr1, G.cl, G.nC, ruf_c, _, rfl, _, rfl, P1, a1, y, z, f1, N, rfl, ne1.same s0a, lets_of ny, fun Hb sb => ?_⟩
        have s0b := s0a.trans sb
        refine ⟨_, rfl, r2, _, dx2, _, _, rfl, s0b _ _ hr2, G.cl, G.nC, ruf_c, _, rfl, _, rfl, P2, a2, y, z, f2, N, rfl, ne2.same s0b, lets_of ny, fun Hc sc => ?_⟩
        rw [heq y z kz]
        refine ⟨rfl, _, rfl, if_no (by simp) ?_⟩
        exact ⟨_, rfl, sa.trans (sb.trans sc)⟩
      · rintro σ Ha ⟨w3, rfl, sa⟩
        refine ⟨_, _, rfl, ?_⟩
        refine s4.trans (sd1.trans (sd2.trans (s7.trans (s79.trans sa))))
    · rintro σ H4 ⟨v2, v3, rfl, s4⟩
      exact k _ (s03.trans s4)
end
end K28
set_option maxHeartbeats 4000000
namespace K28
open PySem PySem.Spec PyProof.Rows L2 Z
abbrev CSr (K : PySem.W.Frag) : Addr := He.ga K "Stepper"
def srf (v : V) (n : Int) (wk a ov : Addr) : List (Str × V) := putF "overwritten" (.ref ov) (putF "cells" (.ref a) (putF "works" (.ref wk) (putF "n" (.int n) (putF "program" v []))))
structure SrTx (K : PySem.W.Frag) : Prop where
  cl : Cls K (CSr K)
  nP : NoAttr K (CSr K) "program"
  nN : NoAttr K (CSr K) "n"
  nW : NoAttr K (CSr K) "works"
  nC : NoAttr K (CSr K) "cells"
  nO : NoAttr K (CSr K) "overwritten"
section
variable {v : V} {n : Int} {wk a ov : Addr}
theorem srf_p : (srf v n wk a ov).lookup ("program" : Str) = some v := by
  unfold srf
  rw [lookup_putF, if_neg (by decide +kernel), lookup_putF, if_neg (by decide +kernel), lookup_putF, if_neg (by decide +kernel), lookup_putF, if_neg (by decide +kernel), lookup_putF, if_pos rfl]
theorem srf_n : (srf v n wk a ov).lookup ("n" : Str) = some (.int n) := by
  unfold srf
  rw [lookup_putF, if_neg (by decide +kernel), lookup_putF, if_neg (by decide +kernel), lookup_putF, if_neg (by decide +kernel), lookup_putF, if_pos rfl]
theorem srf_w : (srf v n wk a ov).lookup ("works" : Str) = some (.ref wk) := by
  unfold srf
  rw [lookup_putF, if_neg (by decide +kernel), lookup_putF, if_neg (by decide +kernel), lookup_putF, if_pos rfl]
theorem srf_c : (srf v n wk a ov).lookup ("cells" : Str) = some (.ref a) := by
  unfold srf
  rw [lookup_putF, if_neg (by decide +kernel), lookup_putF, if_pos rfl]
theorem srf_o : (srf v n wk a ov).lookup ("overwritten" : Str) = some (.ref ov) := by
  unfold srf
  rw [lookup_putF, if_pos rfl]
theorem srf_no {x : Str} (h1 : ¬ x = "program") (h2 : ¬ x = "n") (h3 : ¬ x = "works") (h4 : ¬ x = "cells") (h5 : ¬ x = "overwritten") : (srf v n wk a ov).lookup x = none := by
  unfold srf
  rw [lookup_putF, if_neg h5, lookup_putF, if_neg h4, lookup_putF, if_neg h3, lookup_putF, if_neg h2, lookup_putF, if_neg h1]
  rfl
end
/-- what the j-th work writes over -/
def old (ls : List LpM) (n : Int) (f0 : Sto) (j : Nat) : Str × Int × Option Int := match (works ls n)[j]? with
  | some w => (match stAt ls w with
    | some s => ((cellOf s w.2.1 n).1, (cellOf s w.2.1 n).2, ran ls n ((works ls n).take j) f0 (cellOf s w.2.1 n).1 (cellOf s w.2.1 n).2)
    | none => ("", 0, none))
  | none => ("", 0, none)
theorem old_at {ls : List LpM} {n : Int} {f0 : Sto} {j : Nat} {w : W3} {s : StM} (h : (works ls n)[j]? = some w) (hs : stAt ls w = some s) :
    old ls n f0 j = ((cellOf s w.2.1 n).1, (cellOf s w.2.1 n).2, ran ls n ((works ls n).take j) f0 (cellOf s w.2.1 n).1 (cellOf s w.2.1 n).2) := by
  unfold old
  rw [h]
  dsimp only
  rw [hs]
def oV (o : Option Int) : V := match o with
  | none => .non
  | some v => .int v
def oP (o : Option Int) : PyData := match o with
  | none => .none
  | some v => .int v
def oldD (o : Str × Int × Option Int) : PyData := .tuple [.str o.1, .int o.2.1, oP o.2.2]
def olds (ls : List LpM) (n : Int) (f0 : Sto) (k : Nat) : List (Str × Int × Option Int) := (List.range k).map (old ls n f0)
theorem oV_dt {H : Hp} (o : Option Int) : DT H (oV o) (oP o) := by
  cases o
  · exact .non
  · exact .int _
theorem dt_old {H : Hp} {v : V} {o : Str × Int × Option Int} (h : DT H v (oldD o)) : ∃ t, v = .ref t ∧ H t = some (.tup [.str o.1, .int o.2.1, oV o.2.2]) := by
  obtain ⟨t, xs, rfl, h1, d⟩ := DT.tup' h
  cases d with
  | cons a d =>
    cases d with
    | cons b d =>
      cases d with
      | cons c d =>
        cases d
        cases a
        cases b
        refine ⟨t, rfl, ?_⟩
        obtain ⟨x, i, o⟩ := o
        cases o with
        | none =>
          have c : DT H _ .none := c
          cases c
          exact h1
        | some u =>
          have c : DT H _ (.int u) := c
          cases c
          exact h1
/-- a stepper behind k works; what it changes is among P -/
structure SteR (P : Addr → Prop) (K : PySem.W.Frag) (H : Hp) (v : V) (ls : List LpM) (n : Int) (f0 : Sto) (k N : Nat) (wk a ov : Addr) (ws os : List V) : Prop where
  prog : PrOb K H v ls
  hwk : H wk = some (.lst ws)
  own : P wk
  apart : wk ≠ ov
  dworks : DTs H ws ((works ls n).map wD)
  nest : Nest P H a (ran ls n ((works ls n).take k) f0) N
  over : H ov = some (.lst os)
  ownO : P ov
  least : k ≤ (works ls n).length
  dover : DTs H os ((olds ls n f0 k).map oldD)
def SteAt (P : Addr → Prop) (K : PySem.W.Frag) (H : Hp) (p : Addr) (ls : List LpM) (n : Int) (f0 : Sto) (k N : Nat) : Prop := ∃ dx v wk a ov ws os, H p = some (.ins (CSr K) dx (srf v n wk a ov)) ∧ SteR P K H v ls n f0 k N wk a ov ws os
section
variable {P P' : Addr → Prop} {K : PySem.W.Frag} {H H' : Hp} {p : Addr} {v : V} {ls : List LpM} {n : Int} {f0 : Sto} {k N N' : Nat} {wk a ov : Addr} {ws os : List V}
theorem SteR.to (h : SteR P K H v ls n f0 k N wk a ov ws os) (s : ∀ b o, P b → H b = some o → H' b = some o) (m : MS H H') : SteR P K H' v ls n f0 k N wk a ov ws os :=
  ⟨h.prog.ms m, s _ _ h.own h.hwk, h.own, h.apart, h.dworks.to m.t, h.nest.to s, s _ _ h.ownO h.over, h.ownO, h.least, h.dover.to m.t⟩
theorem SteAt.to (h : SteAt P K H p ls n f0 k N) (s : ∀ b o, P b → H b = some o → H' b = some o) (m : MS H H') : SteAt P K H' p ls n f0 k N := by
  obtain ⟨dx, v, wk, a, ov, ws, os, h1, h2⟩ := h
  exact ⟨dx, v, wk, a, ov, ws, os, m _ _ h1 rfl, h2.to s m⟩
theorem SteAt.same (h : SteAt P K H p ls n f0 k N) (s : Same H H') : SteAt P K H' p ls n f0 k N := h.to (fun b o _ => s b o) (.of s)
theorem SteAt.up (h : SteAt P K H p ls n f0 k N) (e : N ≤ N') : SteAt P K H p ls n f0 k N' := by
  obtain ⟨dx, v, wk, a, ov, ws, os, h1, h2⟩ := h
  exact ⟨dx, v, wk, a, ov, ws, os, h1, h2.prog, h2.hwk, h2.own, h2.apart, h2.dworks, h2.nest.up e, h2.over, h2.ownO, h2.least, h2.dover⟩
theorem SteAt.imp (h : SteAt P K H p ls n f0 k N) (q : ∀ b, P b → H b ≠ none → P' b) : SteAt P' K H p ls n f0 k N := by
  obtain ⟨dx, v, wk, a, ov, ws, os, h1, h2⟩ := h
  have nn : ∀ {b o}, H b = some o → H b ≠ none := fun e => by
    rw [e]
    exact fun z => by cases z
  exact ⟨dx, v, wk, a, ov, ws, os, h1, h2.prog, h2.hwk, q _ h2.own (nn h2.hwk), h2.apart, h2.dworks, h2.nest.imp q, h2.over, q _ h2.ownO (nn h2.over), h2.least, h2.dover⟩
theorem SteAt.fr (h : SteAt P K H p ls n f0 k N) (f : Fr P' H H') (q : ∀ b, P b → ¬ P' b) : SteAt P K H' p ls n f0 k N := h.to (fun b o hb e => f.keep b o e (q b hb)) f.ms
theorem SteAt.keepC {q pc : Addr} {t : Nat} (h : SteAt P K H p ls n f0 k N) (hp : PenC H q pc t) (kp : Keep q H H') : SteAt P K H' p ls n f0 k N := by
  obtain ⟨dx, v, wk, a, ov, ws, os, h1, h2⟩ := h
  have m : MS H H' := MS.keep hp.pen kp
  exact ⟨dx, v, wk, a, ov, ws, os, m _ _ h1 rfl, h2.prog.ms m, hp.lst kp h2.hwk, h2.own, h2.apart, h2.dworks.to m.t, h2.nest.keepC hp kp, hp.lst kp h2.over, h2.ownO, h2.least, h2.dover.to m.t⟩
end
structure Em (K : PySem.W.Frag) (mg : Str → Option Value) (x : Str) : Prop where
  gC : mg x = some (.ref (He.ga K x))
  kC : PySem.W.keepIn K (.ref (He.ga K x)) = true
  exB : PySem.W.excIn K (He.ga K x) He.veBase "ValueError.__new__" = true
  bM : PySem.W.subIn K (.ref (He.ga K x)) (.type "BaseException") = some true
  tM : PySem.W.typeIn K (.ref (He.ga K x)) = some (.type "type")
def spMD (K : PySem.W.Frag) : Sp := fun vs H Q _ => ∃ (P : Addr → Prop) (p : Addr) (ls : List LpM) (n : Int) (f0 : Sto) (k N : Nat), vs = [.ref p] ∧ SteAt P K H p ls n f0 k N ∧ Q (.int (k : Int)) H
def spNW (K : PySem.W.Frag) : Sp := fun vs H Q _ => ∃ (P : Addr → Prop) (p : Addr) (ls : List LpM) (n : Int) (f0 : Sto) (k N : Nat), vs = [.ref p] ∧ SteAt P K H p ls n f0 k N ∧ (k = (works ls n).length → Q .non H) ∧
  ∀ w v, (works ls n)[k]? = some w → DT H v (wD w) → Q v H
section
variable {P : Program} {w : World} {K : PySem.W.Frag} {mg : Str → Option Value} {base : Heap}
theorem olds_len {ls : List LpM} {n : Int} {f0 : Sto} {k : Nat} : (olds ls n f0 k).length = k := by
  unfold olds
  rw [List.length_map, List.length_range]
theorem scSteppermany_done : FnScope ["self"] ["self"] (defScope iSteppermany_done) := ⟨rfl, rfl, rfl, by decide +kernel, rfl, by decide +kernel, by decide +kernel⟩
theorem ok_MD {fd : FuncData} (F : FnM K "Stepper" "many_done" "Stepper.many_done" iSteppermany_done fd) (T : LwTx K mg) (G : SrTx K) : FnOk P w K mg base CX0 1 (He.ma K (CSr K) "many_done") fd ["self"] (spMD K) := by
  refine F.ok scSteppermany_done (fun vs H Q E h => ?_) (fun cdv A outer s H vs Q E hr h => ?_)
  · obtain ⟨PP, p, ls, n, f0, k, N, rfl, _⟩ := h
    rfl
  · obtain ⟨PP, p, ls, n, f0, k, N, rfl, ⟨dx, v, wk, a, ov, ws, os, hp, S⟩, kk⟩ := h
    refine ⟨_, PSs.nox (pss_one (ps_ret (pe_callB call_len_seq (by rfl) T.len PySem.boot_len (pa_cons (pe_fld (pv 0) rfl) pa_nil)))), ?_⟩
    have e : os.length = k := by rw [S.dover.len, List.length_map, olds_len]
    rw [← e] at kk
    exact ⟨_, rfl, p, _, dx, _, _, rfl, hp, G.cl, G.nO, srf_o, ov, _, rfl, .inl (SqL.of S.over), kk⟩
theorem scSteppernext_work : FnScope ["self", "many"] ["self"] (defScope iSteppernext_work) := ⟨rfl, rfl, rfl, by decide +kernel, rfl, by decide +kernel, by decide +kernel⟩
theorem ok_NW {fd : FuncData} (F : FnM K "Stepper" "next_work" "Stepper.next_work" iSteppernext_work fd) (T : LwTx K mg) (G : SrTx K) : FnOk P w K mg base CX0 1 (He.ma K (CSr K) "next_work") fd ["self"] (spNW K) := by
  refine F.ok scSteppernext_work (fun vs H Q E h => ?_) (fun cdv A outer s H vs Q E hr h => ?_)
  · obtain ⟨PP, p, ls, n, f0, k, N, rfl, _⟩ := h
    rfl
  · obtain ⟨PP, p, ls, n, f0, k, N, rfl, ⟨dx, v, wk, a, ov, ws, os, hp, S⟩, k1, k2⟩ := h
    refine ⟨_, PSs.nox (pss_cons (ps_set (i := 1) scSteppernext_work.nd rfl (Or.inl rfl) (pe_callB call_len_seq (by rfl) T.len PySem.boot_len (pa_cons (pe_fld (pv 0) rfl) pa_nil)))
      (pss_one (ps_ret (pe_ifExp (pt_cmpR op_lt (pv 1) (pe_callB call_len_seq (by rfl) T.len PySem.boot_len (pa_cons (pe_fld (pv 0) rfl) pa_nil)) (nomark _)) (pe_ix ix_list (pe_fld (pv 0) rfl) (pv 1) (fun _ _ => rfl)) pe_non)))), ?_⟩
    have e : os.length = k := by rw [S.dover.len, List.length_map, olds_len]
    have lws : ws.length = (works ls n).length := by rw [S.dworks.len, List.length_map]
    have le := S.least
    refine ⟨_, rfl, p, _, dx, _, _, rfl, hp, G.cl, G.nO, srf_o, ov, _, rfl, .inl (SqL.of S.over), ?_⟩
    refine ⟨_, rfl, _, rfl, p, _, dx, _, _, rfl, hp, G.cl, G.nW, srf_w, wk, _, rfl, .inl (SqL.of S.hwk), _, _, rfl, rfl, _, rfl, ite2 (fun h => ?_) (fun h => ?_)⟩
    · have h : (os.length : Int) < (ws.length : Int) := of_decide_eq_true h
      obtain ⟨w0, hw⟩ : ∃ w0, (works ls n)[k]? = some w0 := ⟨_, List.getElem?_eq_getElem (by omega)⟩
      obtain ⟨u, hu, du⟩ := DTs.get k _ S.dworks (by rw [List.getElem?_map, hw]; rfl)
      exact ⟨_, rfl, p, _, dx, _, _, rfl, hp, G.cl, G.nW, srf_w, _, rfl, wk, _, _, _, rfl, rfl, SqL.of S.hwk, (by rw [e]; exact atI_nat hu), k2 w0 u hw du⟩
    · have h : ¬ (os.length : Int) < (ws.length : Int) := fun z => h (decide_eq_true z)
      exact k1 (by omega)
end
end K28
set_option maxHeartbeats 4000000
namespace K28
open PySem PySem.Spec PyProof.Rows L2 Z
def LsOk (ls : List LpM) : Prop := ls.length ≤ 3 ∧ ∀ l ∈ ls, LpOk l
def spDo (K : PySem.W.Frag) : Sp := fun vs H Q E => ∃ (P : Addr → Prop) (p : Addr) (ls : List LpM) (n : Int) (f0 : Sto) (k N : Nat), vs = [.ref p] ∧ SteAt P K H p ls n f0 k N ∧ LsOk ls ∧ (works ls n).length ≤ 1000 ∧ N < 400000 ∧ (∀ e, H e = none → P e) ∧
  (k = (works ls n).length → ∀ H', Same H H' → E (.ref (He.ga K "AtEnd")) none H') ∧ (k < (works ls n).length → ∀ H', SteAt P K H' p ls n f0 (k + 1) (N + 2) → Fr P H H' → Q .non H')
def spUndo (K : PySem.W.Frag) : Sp := fun vs H Q E => ∃ (P : Addr → Prop) (p : Addr) (ls : List LpM) (n : Int) (f0 : Sto) (k N : Nat), vs = [.ref p] ∧ SteAt P K H p ls n f0 k N ∧ LsOk ls ∧ N < 400000 ∧
  (k = 0 → ∀ H', Same H H' → E (.ref (He.ga K "AtStart")) none H') ∧ (0 < k → ∀ H', SteAt P K H' p ls n f0 (k - 1) (N + 2) → Fr P H H' → Q .non H')
theorem olds_succ {ls : List LpM} {n : Int} {f0 : Sto} {k : Nat} : olds ls n f0 (k + 1) = olds ls n f0 k ++ [old ls n f0 k] := by
  unfold olds
  rw [List.range_succ, List.map_append]
  rfl
theorem dts_dl {H : Hp} : ∀ {ds : List PyData} {vs : List V}, DTs H vs ds → DTs H vs.dropLast ds.dropLast
  | [], _, h => by cases h; exact .nil
  | [d], _, h => by
    cases h with
    | cons a b =>
      cases b
      exact .nil
  | d :: e :: ds, _, h => by
    cases h with
    | cons a b =>
      have q := dts_dl b
      cases b with
      | cons c r => exact .cons a q
theorem works_at {ls : List LpM} {n : Int} {k : Nat} (ok : ∀ l ∈ ls, LpOk l) (h : k < (works ls n).length) : ∃ (w : W3) (j q : Nat) (l : LpM) (s : StM), (works ls n)[k]? = some w ∧ w.1 = (j : Int) ∧ w.2.2 = (q : Int) ∧ ls[j]? = some l ∧ l.sts[q]? = some s ∧ StOk s ∧ stAt ls w = some s := by
  have hw := List.getElem?_eq_getElem (l := works ls n) (i := k) h
  obtain ⟨j, q, l, s, hj, hq, hl, hc, hs⟩ := works_mem (List.mem_of_getElem? hw)
  have okl := ok l (List.mem_of_getElem? hl)
  obtain ⟨_, _, _, _, _, _, _, _, _, _, _, _, _, _, _, _, _, okS⟩ := okl
  exact ⟨_, j, q, l, s, hw, hj, hq, hl, hs, okS s (List.mem_of_getElem? hs), stAt_of hj hq hl hs⟩
section
variable {P : Program} {w : World} {K : PySem.W.Frag} {mg : Str → Option Value} {base : Heap}
theorem scStepperdo_work : FnScope ["self", "work", "array", "cell", "value", "cells"] ["self"] (defScope iStepperdo_work) := ⟨rfl, rfl, rfl, by decide +kernel, rfl, by decide +kernel, by decide +kernel⟩
theorem ok_Do {fd fn : FuncData} (F : FnM K "Stepper" "do_work" "Stepper.do_work" iStepperdo_work fd) (T : LwTx K mg) (G : SrTx K) (MAtEnd : Em K mg "AtEnd")
    (Fn : FnOk P w K mg base CX0 1 (He.ma K (CSr K) "next_work") fn ["self"] (spNW K)) (hbn : Binds K fn ["self"] []) (cn : Meth K (CSr K) "next_work" (He.ma K (CSr K) "next_work"))
    (dWriteOf : Dn P w K mg base 3 "write_of" ["program", "n", "work", "cells"] (spWriteOf K)) : FnOk P w K mg base (L2.CX P w) 4 (He.ma K (CSr K) "do_work") fd ["self"] (spDo K) := by
  refine F.ok scStepperdo_work (fun vs H Q E h => ?_) (fun cdv A outer s H vs Q E hr h => ?_)
  · obtain ⟨PP, p, ls, n, f0, k, N, rfl, _⟩ := h
    rfl
  · obtain ⟨PP, p, ls, n, f0, k, N, rfl, st, ok, lW, hN, hP, kE, kk⟩ := h
    have hu := hu_of hr
    refine ⟨_, (pss_cons (ps_set (i := 1) scStepperdo_work.nd rfl (Or.inl rfl) (pe_meth0 (pv 0) G.cl cn Fn (hr.mono (by decide)) hbn .nil pass0))
      (pss_cons (ps_if (pt_cmpR op_isN (pv 1) pe_non (nomark _)) (pss_one (ps_raise rfl (takes_of rfl rfl rfl rfl) (pmk_own0 PySem.F.excBase_ValueError MAtEnd.exB MAtEnd.gC MAtEnd.kC (raises_own MAtEnd.bM MAtEnd.tM) rfl))) pss_nil)
      (pss_cons (ps_asg (pe_dn dWriteOf hr (pa_cons (pe_fld (pv 0) rfl) (pa_cons (pe_fld (pv 0) rfl) (pa_cons (pv 1) (pa_cons (pe_fld (pv 0) rfl) pa_nil))))) (pg_tup (by rfl) (pgs_cons (pg_name (i := 2) scStepperdo_work.nd rfl (.inl rfl)) (pgs_cons (pg_name (i := 3) scStepperdo_work.nd rfl (.inl rfl)) (pgs_cons (pg_name (i := 4) scStepperdo_work.nd rfl (.inl rfl)) pgs_nil)))))
      (pss_cons (ps_set (i := 5) scStepperdo_work.nd rfl (Or.inl rfl) (pe_set (pe_fldK (K := K) rfl (pv 0)) (pv 2) ⟨rfl, rfl, rfl, rfl⟩))
      (pss_cons (ps_expr (pe_bm PySem.F.plainAttrs_list PySem.F.slot_list_append PySem.F.type_list_append mt_append (pe_fld (pv 0) rfl) (pa_cons (pe_tup (pa_cons (pv 2) (pa_cons (pv 3) (pa_cons (pe_dget1 hu (pv 5) (pv 3) ⟨rfl, rfl, rfl, rfl⟩) pa_nil)))) pa_nil)))
      (pss_one (ps_dput hu (pv 5) (pv 3) (pv 4) rfl))))))), ?_⟩
    obtain ⟨dx, v, wk, a, ov, ws, os, hp, S⟩ := id st
    have le := S.least
    refine ⟨_, rfl, p, dx, _, rfl, hp, srf_no (by decide +kernel) (by decide +kernel) (by decide +kernel) (by decide +kernel) (by decide +kernel), PP, p, ls, n, f0, k, N, rfl, st, fun e => ?_, fun w0 wv hw dw => ?_⟩
    · refine ⟨_, rfl, rfl, _, rfl, iteT ?_⟩
      exact kE e H (Same.refl H)
    · have hk : k < (works ls n).length := (List.getElem?_eq_some_iff.mp hw).1
      obtain ⟨w1, j, q, l, s, hw1, hj, hq, hl, hs, oks, hst⟩ := works_at ok.2 hk
      rw [hw] at hw1
      cases hw1
      obtain ⟨tw, rfl, htw⟩ := dt_w dw
      have kk := kk hk
      refine ⟨_, rfl, rfl, _, rfl, if_no rfl ?_⟩
      refine normG (σ' := [some (.ref p), some (.ref tw), none, none, none, none]) rfl ?_
      refine ⟨_, rfl, p, _, dx, _, _, rfl, hp, G.cl, G.nP, srf_p, _, rfl, p, _, dx, _, _, rfl, hp, G.cl, G.nN, srf_n, _, rfl, _, rfl, p, _, dx, _, _, rfl, hp, G.cl, G.nC, srf_c, ?_⟩
      refine ⟨v, ls, n, tw, w0, _, a, _, _, j, q, l, s, rfl, S.prog, htw, hj, hq, hl, hs, oks, S.nest, fun t H1 s1 ht => ?_⟩
      refine ⟨t, _, rfl, SqT.of ht, rfl, _, _, rfl, _, _, rfl, _, _, rfl, rfl, ?_⟩
      obtain ⟨val, hval⟩ : ∃ val, val = wVal (ran ls n ((works ls n).take k) f0) s w0.2.1 n := ⟨_, rfl⟩
      rw [← hval]
      have S1 := S.to (fun b o _ => s1 b o) (.of s1)
      have hp1 := s1 _ _ hp
      refine norm (σ' := [some (.ref p), some (.ref tw), some (.str (cellOf s w0.2.1 n).1), some (.int (cellOf s w0.2.1 n).2), some (.int val), none]) rfl ?_
      obtain ⟨kvs, hDk, _⟩ := id S1.nest
      have hP1 : ∀ e, H1 e = none → PP e := fun e he => hP e (by
        cases q : H e with
        | none => rfl
        | some o =>
          rw [s1 _ _ q] at he
          cases he)
      refine ⟨_, rfl, p, _, dx, _, _, rfl, hp1, G.cl, G.nC, srf_c, a, rfl, .inl ⟨kvs, .inl hDk⟩, _, rfl, _, _, _, (cellOf s w0.2.1 n).1, rfl, S1.nest, oks.1.1, by omega, hP1, fun d H2 ⟨ne2, at2, fr2, nd2⟩ => ?_⟩
      refine normG (σ' := [some (.ref p), some (.ref tw), some (.str (cellOf s w0.2.1 n).1), some (.int (cellOf s w0.2.1 n).2), some (.int val), some (.ref d)]) rfl ?_
      have ov2 := nd2.lst S1.over
      have hp2 := nd2.ins hp1
      obtain ⟨ics, h1, h2, h3, h4, h5, ne6, fr6⟩ := nest_put (i := (cellOf s w0.2.1 n).2) (v := val) ne2 at2
      have e : os.length = k := by rw [S.dover.len, List.length_map, olds_len]
      refine ⟨_, rfl, p, _, dx, _, _, rfl, hp2, G.cl, G.nO, srf_o, .inl ⟨rfl, _, SqL.of ov2⟩, _, rfl, _, rfl, ?_⟩
      refine ⟨_, rfl, d, rfl, .inl ⟨ics, .inl h1⟩, _, rfl, _, DGet.k (k := Sum.inl (cellOf s w0.2.1 n).2) h1, sz3, fun t3 ht3 => ?_⟩
      have gv : (valV ics (.inl (cellOf s w0.2.1 n).2)).getD .non = oV (ran ls n ((works ls n).take k) f0 (cellOf s w0.2.1 n).1 (cellOf s w0.2.1 n).2) := by
        rw [h3]
        cases ran ls n ((works ls n).take k) f0 (cellOf s w0.2.1 n).1 (cellOf s w0.2.1 n).2 <;> rfl
      rw [gv]
      obtain ⟨H3, eH3⟩ : ∃ X, X = upd H2 t3 (.tup [.str (cellOf s w0.2.1 n).1, .int (cellOf s w0.2.1 n).2, oV (ran ls n ((works ls n).take k) f0 (cellOf s w0.2.1 n).1 (cellOf s w0.2.1 n).2)]) := ⟨_, rfl⟩
      have s3 : Same H2 H3 := by rw [eH3]; exact Same.new _ (Same.refl H2) ht3
      have et3 : H3 t3 = some (.tup [.str (cellOf s w0.2.1 n).1, .int (cellOf s w0.2.1 n).2, oV (ran ls n ((works ls n).take k) f0 (cellOf s w0.2.1 n).1 (cellOf s w0.2.1 n).2)]) := by rw [eH3]; exact upd_same
      rw [← eH3]
      have ov3 := s3 _ _ ov2
      refine ⟨ov, os, _, rfl, rfl, ov3, sz1l _ (by omega), ?_⟩
      have dov : d ≠ ov := ne_of h1 ov2 (by intro z; cases z)
      obtain ⟨H4, eH4⟩ : ∃ X, X = upd H3 ov (.lst (os ++ [.ref t3])) := ⟨_, rfl⟩
      have dk4 : ∀ b kvs, H2 b = some (.dK kvs) → H4 b = some (.dK kvs) := fun b kvs e => by
        rw [eH4, upd_ne (ne_of (s3 _ _ e) ov3 (by intro z; cases z))]
        exact s3 _ _ e
      have ov4 : H4 ov = some (.lst (os ++ [.ref t3])) := by rw [eH4]; exact upd_same
      have fr24 : Fr PP H2 H4 := (Fr.same s3).trans (by rw [eH4]; exact .upd ov3 rfl S.ownO)
      rw [← eH4]
      obtain ⟨ics', h1', _, _, _, _, ne7, fr7⟩ := nest_put (i := (cellOf s w0.2.1 n).2) (v := val) (ne2.dk dk4) (at2.dk dk4)
      have ei : ics' = ics := by
        rw [dk4 _ _ h1] at h1'
        cases h1'
        rfl
      subst ei
      refine ⟨_, rfl, _, rfl, _, rfl, d, _, rfl, DPut.k (k := Sum.inl (cellOf s w0.2.1 n).2) h1' (sz1m _ (by omega)), ?_⟩
      have frA : Fr PP H _ := (Fr.same s1).trans (fr2.trans (fr24.trans fr7))
      refine kk _ ⟨dx, v, wk, a, ov, ws, os ++ [.ref t3], frA.ms _ _ hp rfl, ?_⟩ frA
      refine ⟨S.prog.ms frA.ms, ?_, S.own, S.apart, S.dworks.to frA.ms.t, ?_, ?_, S.ownO, hk, ?_⟩
      · have wd : wk ≠ d := ne_of (nd2.lst S1.hwk) h1 (by intro z; cases z)
        rw [upd_ne wd, eH4, upd_ne S.apart]
        exact s3 _ _ (nd2.lst S1.hwk)
      · rw [ran_snoc hw hst, ← hval]
        exact ne7
      · rw [upd_ne dov.symm]
        exact ov4
      · rw [olds_succ, old_at hw hst]
        have ts : TSame H3 (upd H4 d (.dK (putK ics' (.inl (cellOf s w0.2.1 n).2) (.int val)))) := by
          have t4 : TSame H3 H4 := by rw [eH4]; exact .updL ov3
          exact t4.trans fr7.ms.t
        exact (S.dover.to frA.ms.t).snoc (.tup (ts _ _ et3) (.cons (.str _) (.cons (.int _) (.cons (oV_dt _) .nil))))
theorem put_back {f : Sto} {x : Str} {i : Int} {v : Option Int} : sPut (sPut f x i v) x i (f x i) = f := by
  funext y j
  unfold sPut
  by_cases c : y = x ∧ j = i
  · rw [if_pos c, c.1, c.2]
  · rw [if_neg c, if_neg c]
theorem scStepperundo_work : FnScope ["self", "array", "cell", "value"] ["self"] (defScope iStepperundo_work) := ⟨rfl, rfl, rfl, by decide +kernel, rfl, by decide +kernel, by decide +kernel⟩
theorem ok_Undo {fd : FuncData} (F : FnM K "Stepper" "undo_work" "Stepper.undo_work" iStepperundo_work fd) (T : LwTx K mg) (G : SrTx K) (MAtStart : Em K mg "AtStart") : FnOk P w K mg base (L2.CX P w) 1 (He.ma K (CSr K) "undo_work") fd ["self"] (spUndo K) := by
  refine F.ok scStepperundo_work (fun vs H Q E h => ?_) (fun cdv A outer s H vs Q E hr h => ?_)
  · obtain ⟨PP, p, ls, n, f0, k, N, rfl, _⟩ := h
    rfl
  · obtain ⟨PP, p, ls, n, f0, k, N, rfl, st, ok, hN, kE, kk⟩ := h
    have hu := hu_of hr
    refine ⟨_, (pss_cons (ps_if (pt_not (pt_truth (pe_fldK (K := K) rfl (pv 0)) (by intro _; rfl))) (pss_one (ps_raise rfl (takes_of rfl rfl rfl rfl) (pmk_own0 PySem.F.excBase_ValueError MAtStart.exB MAtStart.gC MAtStart.kC (raises_own MAtStart.bM MAtStart.tM) rfl))) pss_nil)
      (pss_cons (ps_asg (pe_bm0 PySem.F.plainAttrs_list PySem.F.slot_list_pop PySem.F.type_list_pop mt_pop (pe_fldK (K := K) rfl (pv 0))) (pg_tup (by rfl) (pgs_cons (pg_name (i := 1) scStepperundo_work.nd rfl (.inl rfl)) (pgs_cons (pg_name (i := 2) scStepperundo_work.nd rfl (.inl rfl)) (pgs_cons (pg_name (i := 3) scStepperundo_work.nd rfl (.inl rfl)) pgs_nil)))))
      (pss_one (ps_if (pt_cmpR op_isN (pv 3) pe_non (nomark _)) (pss_one (ps_ddel (pe_dget hu (pe_fldK (K := K) rfl (pv 0)) (pv 1) (fun _ _ => rfl)) (pv 2))) (pss_one (ps_dput hu (pe_dget hu (pe_fldK (K := K) rfl (pv 0)) (pv 1) (fun _ _ => rfl)) (pv 2) (pv 3) rfl)))))), ?_⟩
    obtain ⟨dx, v, wk, a, ov, ws, os, hp, S⟩ := id st
    have le := S.least
    have e : os.length = k := by rw [S.dover.len, List.length_map, olds_len]
    refine ⟨_, rfl, p, _, dx, _, _, rfl, hp, G.cl, G.nO, srf_o, _, .inl ⟨os, SqL.of S.over, rfl⟩, ?_⟩
    cases k with
    | zero =>
      have : os = [] := List.eq_nil_of_length_eq_zero e
      subst this
      exact iteT (kE rfl H (Same.refl H))
    | succ k =>
      obtain ⟨w0, j, q, l, s, hw, hj, hq, hl, hs, oks, hst⟩ := works_at ok.2 (show k < (works ls n).length by omega)
      have kk := kk (Nat.succ_pos k)
      obtain ⟨vt, hvt, dvt⟩ := DTs.get k _ S.dover (by rw [List.getElem?_map, olds_succ, List.getElem?_append_right (by rw [olds_len]; omega), olds_len, Nat.sub_self]; rfl)
      rw [old_at hw hst] at dvt
      obtain ⟨t, rfl, ht⟩ := dt_old dvt
      have ne0 : os ≠ [] := fun z => by
        rw [z] at e
        cases e
      refine if_no (by cases os with | nil => exact absurd rfl ne0 | cons a b => rfl) ?_
      refine ⟨_, rfl, p, _, dx, _, _, rfl, hp, G.cl, G.nO, srf_o, .inl ⟨rfl, _, SqL.of S.over⟩, ov, os, _, rfl, rfl, S.over, (by rw [e]; exact hvt), ?_⟩
      have tov : t ≠ ov := ne_of ht S.over (by intro z; cases z)
      obtain ⟨H1, eH1⟩ : ∃ X, X = upd H ov (.lst os.dropLast) := ⟨_, rfl⟩
      have fr1 : Fr PP H H1 := by rw [eH1]; exact .upd S.over rfl S.ownO
      have ov1 : H1 ov = some (.lst os.dropLast) := by rw [eH1]; exact upd_same
      have dk1 : ∀ b kvs, H b = some (.dK kvs) → H1 b = some (.dK kvs) := fun b kvs e => by
        rw [eH1, upd_ne (ne_of e S.over (by intro z; cases z))]
        exact e
      rw [← eH1]
      refine ⟨t, _, rfl, SqT.of (fr1.ms.t _ _ ht), rfl, _, _, rfl, _, _, rfl, _, _, rfl, rfl, ?_⟩
      obtain ⟨f, hf⟩ : ∃ f, f = ran ls n ((works ls n).take k) f0 := ⟨_, rfl⟩
      rw [← hf]
      refine norm (σ' := [some (.ref p), some (.str (cellOf s w0.2.1 n).1), some (.int (cellOf s w0.2.1 n).2), some (oV (f (cellOf s w0.2.1 n).1 (cellOf s w0.2.1 n).2))]) rfl ?_
      have n1 := S.nest.dk dk1
      rw [ran_snoc hw hst, ← hf] at n1
      obtain ⟨d, at1⟩ := at_of (x := (cellOf s w0.2.1 n).1) (i := (cellOf s w0.2.1 n).2) n1 (by unfold sPut; rw [if_pos ⟨rfl, rfl⟩]; exact fun z => by cases z)
      obtain ⟨kvs, hak, hvk⟩ := id at1
      have gd := DGet.k (k := Sum.inr (cellOf s w0.2.1 n).1) hak
      rw [hvk] at gd
      have hp1 := fr1.ms _ _ hp rfl
      have fin : ∀ H2, Nest PP H2 a f (N + 2) → Fr PP H1 H2 → (∀ xs b, H1 b = some (.lst xs) → H2 b = some (.lst xs)) → Q .non H2 := fun H2 n2 fr2 ls2 => by
        have frA := fr1.trans fr2
        refine kk H2 ⟨dx, v, wk, a, ov, ws, os.dropLast, frA.ms _ _ hp rfl, S.prog.ms frA.ms, ls2 _ _ (by rw [eH1, upd_ne S.apart]; exact S.hwk), S.own, S.apart, S.dworks.to frA.ms.t, by rw [Nat.add_sub_cancel, ← hf]; exact n2, ls2 _ _ ov1, S.ownO, by omega, ?_⟩ frA
        have q := dts_dl (S.dover.to frA.ms.t)
        rw [olds_succ, List.map_append, List.map_singleton, List.dropLast_concat] at q
        rw [Nat.add_sub_cancel]
        exact q
      cases hfx : f (cellOf s w0.2.1 n).1 (cellOf s w0.2.1 n).2 with
      | none =>
        obtain ⟨ics, h1, h2, n3, fr3⟩ := nest_drop (i := (cellOf s w0.2.1 n).2) n1 at1
        refine ⟨_, rfl, rfl, _, rfl, iteT ?_⟩
        refine ⟨_, rfl, p, _, dx, _, _, rfl, hp1, G.cl, G.nC, srf_c, _, rfl, a, _, rfl, gd, _, rfl, d, ics, Sum.inl (cellOf s w0.2.1 n).2, rfl, h1, rfl, (by rw [h2]; unfold sPut; rw [if_pos ⟨rfl, rfl⟩]; rfl), ?_⟩
        rw [← hfx, put_back] at n3
        exact fin _ (n3.up (by omega)) fr3 fun xs b eb => by rw [upd_ne (ne_of eb h1 (by intro z; cases z))]; exact eb
      | some u =>
        obtain ⟨ics, h1, h2, h3, _, _, n3, fr3⟩ := nest_put (i := (cellOf s w0.2.1 n).2) (v := u) n1 at1
        refine ⟨_, rfl, rfl, _, rfl, if_no rfl ?_⟩
        refine ⟨_, rfl, _, rfl, p, _, dx, _, _, rfl, hp1, G.cl, G.nC, srf_c, _, rfl, a, _, rfl, gd, _, rfl, d, _, rfl, DPut.k (k := Sum.inl (cellOf s w0.2.1 n).2) h1 (sz1m _ (by omega)), ?_⟩
        rw [← hfx, put_back] at n3
        exact fin _ (n3.up (by omega)) fr3 fun xs b eb => by rw [upd_ne (ne_of eb h1 (by intro z; cases z))]; exact eb
end
end K28
set_option maxHeartbeats 4000000
namespace K28
open PySem PySem.Spec PyProof.Rows L2 Z
def spGo (K : PySem.W.Frag) : Sp := fun vs H Q E => ∃ (P : Addr → Prop) (p : Addr) (ls : List LpM) (n : Int) (f0 : Sto) (k N : Nat) (m : Int), vs = [.ref p, .int m] ∧ SteAt P K H p ls n f0 k N ∧ LsOk ls ∧ (works ls n).length ≤ 1000 ∧ N < 300000 ∧ (∀ e, H e = none → P e) ∧
  (¬ (0 ≤ m ∧ m ≤ ((works ls n).length : Int)) → RzV K "BadNumber" ["what", "number"] [.str "many", .int m] H E) ∧ (0 ≤ m ∧ m ≤ ((works ls n).length : Int) → ∀ H', SteAt P K H' p ls n f0 m.toNat (N + 4000) → Fr P H H' → Q .non H')
def spSV (K : PySem.W.Frag) : Sp := fun vs H Q E => ∃ (P : Addr → Prop) (p : Addr) (ls : List LpM) (n : Int) (f0 : Sto) (k N : Nat) (x : Str) (i : Int), vs = [.ref p, .str x, .int i] ∧ SteAt P K H p ls n f0 k N ∧ x.length ≤ 1000 ∧
  (isName x = false → Rz K H E (.name x)) ∧ (isName x = true → ∀ H', Same H H' → Q (.int (held (ran ls n ((works ls n).take k) f0) x i)) H')
def ovLen (H : Hp) (p : Addr) : Nat := match H p with
  | some (.ins _ _ fs) => (match fs.lookup ("overwritten" : Str) with
    | some (.ref o) => (match H o with
      | some (.lst os) => os.length
      | _ => 0)
    | _ => 0)
  | _ => 0
theorem ovLen_at {P : Addr → Prop} {K : PySem.W.Frag} {H : Hp} {p : Addr} {ls : List LpM} {n : Int} {f0 : Sto} {k N : Nat} (h : SteAt P K H p ls n f0 k N) : ovLen H p = k := by
  obtain ⟨dx, v, wk, a, ov, ws, os, hp, S⟩ := h
  unfold ovLen
  rw [hp]
  dsimp only
  rw [srf_o]
  dsimp only
  rw [S.over]
  dsimp only
  rw [S.dover.len, List.length_map, olds_len]
section
variable {P : Program} {w : World} {K : PySem.W.Frag} {mg : Str → Option Value} {base : Heap}
theorem scSteppervalue_of : FnScope ["self", "array", "cell"] ["self", "array", "cell"] (defScope iSteppervalue_of) := ⟨rfl, rfl, rfl, by decide +kernel, rfl, by decide +kernel, by decide +kernel⟩
theorem ok_SV {fd : FuncData} (F : FnM K "Stepper" "value_of" "Stepper.value_of" iSteppervalue_of fd) (G : SrTx K) (dValIn : Dx P w K mg base 4 "value_in" ["cells", "array", "cell"] (spValIn K)) : FnOk P w K mg base (L2.CX P w) 5 (He.ma K (CSr K) "value_of") fd ["self", "array", "cell"] (spSV K) := by
  refine F.ok scSteppervalue_of (fun vs H Q E h => ?_) (fun cdv A outer s H vs Q E hr h => ?_)
  · obtain ⟨PP, p, ls, n, f0, k, N, x, i, rfl, _⟩ := h
    rfl
  · obtain ⟨PP, p, ls, n, f0, k, N, x, i, rfl, ⟨dx, v, wk, a, ov, ws, os, hp, S⟩, hx, k1, k2⟩ := h
    refine ⟨_, (pss_one (ps_ret (pe_dx (K := K) dValIn rfl hr (fun σ => passAt (takes_of rfl rfl rfl rfl) σ) (pa_cons (pe_fld (pv 0) rfl) (pa_cons (pv 1) (pa_cons (pv 2) pa_nil)))))), ?_⟩
    exact ⟨_, rfl, p, _, dx, _, _, rfl, hp, G.cl, G.nC, srf_c, _, rfl, _, rfl, PP, a, x, i, _, N, rfl, S.nest, hx, k1, k2⟩
theorem scSteppergo_to : FnScope ["self", "many"] ["self", "many"] (defScope iSteppergo_to) := ⟨rfl, rfl, rfl, by decide +kernel, rfl, by decide +kernel, by decide +kernel⟩
theorem ok_Go {fd fd1 fu1 : FuncData} (F : FnM K "Stepper" "go_to" "Stepper.go_to" iSteppergo_to fd) (T : LwTx K mg) (G : SrTx K) (MB : Mx P w K mg base "BadNumber" ["self", "what", "number"] ["what", "number"])
    (Fd : FnOk P w K mg base (L2.CX P w) 4 (He.ma K (CSr K) "do_work") fd1 ["self"] (spDo K)) (hbd : Binds K fd1 ["self"] []) (cd : Meth K (CSr K) "do_work" (He.ma K (CSr K) "do_work"))
    (Fu : FnOk P w K mg base (L2.CX P w) 1 (He.ma K (CSr K) "undo_work") fu1 ["self"] (spUndo K)) (hbu : Binds K fu1 ["self"] []) (cu : Meth K (CSr K) "undo_work" (He.ma K (CSr K) "undo_work"))
    (dIsIntFrom : Dn P w K mg base 2 "is_integer_from" ["value", "low", "high"] spIntFromA) : FnOk P w K mg base (L2.CX P w) 5 (He.ma K (CSr K) "go_to") fd ["self", "many"] (spGo K) := by
  refine F.ok scSteppergo_to (fun vs H Q E h => ?_) (fun cdv A outer s H vs Q E hr h => ?_)
  · obtain ⟨PP, p, ls, n, f0, k, N, m, rfl, _⟩ := h
    rfl
  · obtain ⟨PP, p, ls, n, f0, k, N, m, rfl, st, ok, lW, hN, hP, kE, kk⟩ := h
    refine ⟨_, (pss_cons (ps_if (pt_not (pt_val (pe_dn dIsIntFrom hr (pa_cons (pv 1) (pa_cons pe_int (pa_cons (pe_callB call_len_seq (by rfl) T.len PySem.boot_len (pa_cons (pe_fld (pv 0) rfl) pa_nil)) pa_nil)))))) (pss_one (ps_raise rfl (takes_of rfl rfl rfl rfl) (pmk_err MB hr (pa_cons pe_str (pa_cons (pv 1) pa_nil))))) pss_nil)
      (pss_cons (ps_while (passes_of rfl) (pt_cmpR op_lt (pe_callB call_len_seq (by rfl) T.len PySem.boot_len (pa_cons (pe_fld (pv 0) rfl) pa_nil)) (pv 1) (nomark _)) (pss_one (ps_expr (pe_methX0 (K := K) rfl (fun σ => passAt (takes_of rfl rfl rfl rfl) σ) (pv 0) G.cl cd Fd (hr.mono (by decide)) hbd))))
      (pss_one (ps_while (passes_of rfl) (pt_cmpR op_gt (pe_callB call_len_seq (by rfl) T.len PySem.boot_len (pa_cons (pe_fld (pv 0) rfl) pa_nil)) (pv 1) (nomark _)) (pss_one (ps_expr (pe_methX0 (K := K) rfl (fun σ => passAt (takes_of rfl rfl rfl rfl) σ) (pv 0) G.cl cu Fu (hr.mono (by decide)) hbu))))))), ?_⟩
    obtain ⟨dx, v, wk, a, ov, ws, os, hp, S⟩ := id st
    have lws : ws.length = (works ls n).length := by rw [S.dworks.len, List.length_map]
    refine ⟨_, rfl, _, rfl, p, _, dx, _, _, rfl, hp, G.cl, G.nW, srf_w, wk, _, rfl, .inl (SqL.of S.hwk), ?_⟩
    rw [lws]
    refine ⟨_, 0, _, rfl, .inl ⟨m, rfl, _, rfl, ?_⟩⟩
    by_cases hm : 0 ≤ m ∧ m ≤ ((works ls n).length : Int)
    · rw [decide_eq_true hm]
      have kk := kk hm
      obtain ⟨m, rfl⟩ : ∃ m' : Nat, m = (m' : Int) := ⟨m.toNat, by omega⟩
      rw [Int.toNat_natCast] at kk
      refine iteF ?_
      have hp0 := hm.2
      refine while_by (fun σ H' => ∃ k', σ = [some (.ref p), some (.int (m : Int))] ∧ SteAt PP K H' p ls n f0 k' (N + 2 * (k' - k)) ∧ k ≤ k' ∧ (k' ≤ m ∨ k' = k) ∧ Fr PP H H') (fun _ H' => m - ovLen H' p) ⟨k, rfl, st.up (by omega), Nat.le_refl _, .inr rfl, .refl⟩ ?_ ?_
      · rintro σ H1 ⟨k', rfl, st1, l1, l2, fr1⟩
        have ol1 := ovLen_at st1
        obtain ⟨dx1, v1, wk1, a1, ov1, ws1, os1, hp1, S1⟩ := id st1
        have e1 : os1.length = k' := by rw [S1.dover.len, List.length_map, olds_len]
        have le1 := S1.least
        refine ⟨_, rfl, p, _, dx1, _, _, rfl, hp1, G.cl, G.nO, srf_o, ov1, _, rfl, .inl (SqL.of S1.over), _, rfl, _, _, rfl, rfl, _, rfl, ite2 (fun h => ?_) (fun h => ?_)⟩
        · have h : (os1.length : Int) < (m : Int) := of_decide_eq_true h
          refine ⟨_, rfl, p, dx1, _, rfl, hp1, srf_no (by decide +kernel) (by decide +kernel) (by decide +kernel) (by decide +kernel) (by decide +kernel), PP, p, ls, n, f0, k', _, rfl, st1, ok, lW, by omega, fun e he => hP e (fr1.fresh he), fun z => ?_, fun _ H2 st2 fr2 => ?_⟩
          · omega
          · refine ⟨⟨k' + 1, rfl, st2.up (by omega), by omega, .inl (by omega), fr1.trans fr2⟩, ?_⟩
            rw [ovLen_at st2, ol1]
            omega
        · have h : ¬ (os1.length : Int) < (m : Int) := fun z => h (decide_eq_true z)
          refine while_by (fun σ H' => ∃ k2, σ = [some (.ref p), some (.int (m : Int))] ∧ SteAt PP K H' p ls n f0 k2 (N + 2 * (k' - k) + 2 * (k' - k2)) ∧ m ≤ k2 ∧ k2 ≤ k' ∧ Fr PP H H') (fun _ H' => ovLen H' p - m) ⟨k', rfl, st1.up (by omega), by omega, Nat.le_refl _, fr1⟩ ?_ ?_
          · rintro σ H3 ⟨k2, rfl, st3, l3, l4, fr3⟩
            have ol3 := ovLen_at st3
            obtain ⟨dx3, v3, wk3, a3, ov3, ws3, os3, hp3, S3⟩ := id st3
            have e3 : os3.length = k2 := by rw [S3.dover.len, List.length_map, olds_len]
            refine ⟨_, rfl, p, _, dx3, _, _, rfl, hp3, G.cl, G.nO, srf_o, ov3, _, rfl, .inl (SqL.of S3.over), _, rfl, _, _, rfl, rfl, _, rfl, ite2 (fun h => ?_) (fun h => ?_)⟩
            · have h : (os3.length : Int) > (m : Int) := of_decide_eq_true h
              refine ⟨_, rfl, p, dx3, _, rfl, hp3, srf_no (by decide +kernel) (by decide +kernel) (by decide +kernel) (by decide +kernel) (by decide +kernel), PP, p, ls, n, f0, k2, _, rfl, st3, ok, by omega, fun z => ?_, fun _ H4 st4 fr4 => ?_⟩
              · omega
              · refine ⟨⟨k2 - 1, rfl, st4.up (by omega), by omega, by omega, fr3.trans fr4⟩, ?_⟩
                rw [ovLen_at st4, ol3]
                omega
            · have h : ¬ (os3.length : Int) > (m : Int) := fun z => h (decide_eq_true z)
              have : k2 = m := by omega
              subst this
              exact kk H3 (st3.up (by omega)) fr3
          · rintro σ H3 Q1 Q2 hq ⟨z0, z1, z2, z3, z4, z5, z6, z7, z8, z9, z10, z11, z12, z13, z14, z15, z16, z17, z18, z19, z20, z21, z22, z23, z⟩
            exact ⟨z0, z1, z2, z3, z4, z5, z6, z7, z8, z9, z10, z11, z12, z13, z14, z15, z16, z17, z18, z19, z20, z21, z22, z23, hq _ _ z⟩
      · rintro σ H3 Q1 Q2 hq ⟨z0, z1, z2, z3, z4, z5, z6, z7, z8, z9, z10, z11, z12, z13, z14, z15, z16, z17, z18, z19, z20, z21, z22, z23, z⟩
        exact ⟨z0, z1, z2, z3, z4, z5, z6, z7, z8, z9, z10, z11, z12, z13, z14, z15, z16, z17, z18, z19, z20, z21, z22, z23, hq _ _ z⟩
    · rw [decide_eq_false hm]
      refine iteT ⟨_, rfl, err_go (K := K) (x := "BadNumber") (fs := ["what", "number"]) (vs := [.str "many", .int m]) (H1 := H) (Q := E) (by show 2 ≤ 1000; decide) rfl (kE hm)⟩
end
end K28
set_option maxHeartbeats 4000000
namespace K28
open PySem PySem.Spec PyProof.Rows L2 Z
theorem srf_def {v : V} {n : Int} {wk a ov : Addr} : srf v n wk a ov = putF "overwritten" (.ref ov) (putF "cells" (.ref a) (putF "works" (.ref wk) (putF "n" (.int n) (putF "program" v [])))) := rfl
/-- what is asked ahead of a run; nv: the size as it was passed; what follows where all is well -/
def PreRun (K : PySem.W.Frag) (H : Hp) (E : XK) (ls : List LpM) (nv : V) (gs : List Gv) (R : Int → Prop) : Prop :=
  (IntV H nv false ∧ RzV K "BadSize" ["n"] [nv] H E) ∨ ∃ n : Int, nv = .int n ∧ (¬ (0 ≤ n ∧ n ≤ TOP) → RzV K "BadSize" ["n"] [.int n] H E) ∧
    (0 ≤ n ∧ n ≤ TOP → (20000 < tot ls n → RzV K "TooLong" ["many"] [.int (tot ls n)] H E) ∧ (tot ls n ≤ 20000 → (∀ x, gBad gs = some x → Rz K H E (.name x)) ∧ (gBad gs = none → R n)))
def spSrI (K : PySem.W.Frag) : Sp := fun vs H Q E => ∃ (H0 : Hp) (p dx : Addr) (v nv : V) (ls : List LpM) (l : Addr) (xs : List V) (gs : List Gv), vs = [.ref p, v, nv, .ref l] ∧ H0 p = none ∧ Same H0 H ∧ H p = some (.ins (CSr K) dx []) ∧
  PrOb K H0 v ls ∧ LsOk ls ∧ SqA K H0 l xs ∧ DTs H0 xs (gs.map gvD) ∧ gs.length ≤ 1000 ∧ (∀ g ∈ gs, g.1.length ≤ 1000) ∧
  PreRun K H0 E ls nv gs fun n => ∀ H', Same H0 H' → SteAt (fun b => H0 b = none) K H' p ls n (giv gs) 0 (2 * gs.length) → Q .non H'
def rSr (K : PySem.W.Frag) (vs : List V) (H : Hp) (Q : VK) (E : XK) : Prop := ∃ (v nv : V) (ls : List LpM) (l : Addr) (xs : List V) (gs : List Gv), vs = [v, nv, .ref l] ∧
  PrOb K H v ls ∧ LsOk ls ∧ SqA K H l xs ∧ DTs H xs (gs.map gvD) ∧ gs.length ≤ 1000 ∧ (∀ g ∈ gs, g.1.length ≤ 1000) ∧
  PreRun K H E ls nv gs fun n => ∀ p H', Same H H' → SteAt (fun b => H b = none) K H' p ls n (giv gs) 0 (2 * gs.length) → Q (.ref p) H'
theorem PreRun.imp {K : PySem.W.Frag} {H : Hp} {E : XK} {ls : List LpM} {nv : V} {gs : List Gv} {R R' : Int → Prop} (h : PreRun K H E ls nv gs R) (k : ∀ n, R n → R' n) : PreRun K H E ls nv gs R' :=
  Or.imp id (fun ⟨n, h1, h2, h3⟩ => ⟨n, h1, h2, fun z => ⟨(h3 z).1, fun q => ⟨((h3 z).2 q).1, fun y => k n (((h3 z).2 q).2 y)⟩⟩⟩) h
theorem IntV.same {H H' : Hp} {v : V} {b : Bool} (h : IntV H v b) (s : Same H H') : IntV H' v b := by
  cases h with
  | int i => exact .int i
  | bl b => exact .bl b
  | str x => exact .str x
  | non => exact .non
  | tup h => exact .tup (s _ _ h)
theorem rSr_of {K : PySem.W.Frag} {H : Hp} {Q : VK} {E : XK} {p dx : Addr} {ws : List V} (h : rSr K ws H Q E) (np : H p = none) (nd : H dx = none) (ne : dx ≠ p) : spSrI K (.ref p :: ws) (upd (upd H dx (.own p)) p (.ins (CSr K) dx [])) (fun v H2 => v = .non ∧ Q (.ref p) H2) E := by
  obtain ⟨v, nv, ls, l, xs, gs, rfl, h1, h2, h3, h4, h5, h6, h7⟩ := h
  exact ⟨H, p, dx, v, nv, ls, l, xs, gs, rfl, np, new_same np nd ne, upd_same, h1, h2, h3, h4, h5, h6, h7.imp fun n q H' s' st => ⟨rfl, q p H' s' st⟩⟩
abbrev srps : List Str := ["self", "program", "n", "start"]
def MkSr (P : Program) (w : World) (K : PySem.W.Frag) (mg : Str → Option Value) (base : Heap) : Prop := ∃ f fd, Mc P w K mg base 6 "Stepper" f fd srps (spSrI K) ∧ KBn K fd srps 3 ["start"] (fun us ws => us ++ ws) (fun vs zs => vs ++ zs)
def tSrK (K : PySem.W.Frag) (t tk : TA) (E : L2.St → XK) : TE := fun σ H Q => t σ H fun vs H1 => tk σ H1 fun zs H2 => vs.length = 2 ∧ zs.length = 1 ∧ rSr K (vs ++ zs) H2 Q (E σ)
section
variable {X : Cx} {K : PySem.W.Frag} {k : Nat} {E : L2.St → XK} {p pos : Pos} {e : Expr} {es : List Expr} {t tk : TA} {kws : List Keyword}
theorem pe_SrK (M : MkSr X.prog X.w K X.mg X.base) (hK : X.K = K) (hr : Room k X.A) (hx : ∀ σ, PassesAt (L2.CX X.prog X.w) X σ (E σ)) (ha : PA X (e :: es) t) (hkw : PK X kws tk) (hjk : 7 ≤ k := by decide) (hg : Gl X "Stepper" := by rfl) (hall : (backToKw pos (keywordEach kws X.env)).all (·.1.isSome) = true := by rfl) (hks : (backToKw pos (keywordEach kws X.env)).filterMap (·.1) = (["start"] : List Str) := by rfl)
    (he : starEach (e :: es) X.env = (false, eval e X.env) :: starEach es X.env := by rfl) (hpl : ((backTo pos (starEach (e :: es) X.env)).any (·.1) || (backToKw pos (keywordEach kws X.env)).any (·.1.isNone)) = false := by rfl) :
    PE X (.Call (.Name "Stepper" p) (e :: es) kws pos) (tSrK K t tk E) := by
  obtain ⟨f, fd, M, kb⟩ := M
  exact pe_mkRK (n := 2) (R := fun vs zs H2 Q E => vs.length = 2 ∧ zs.length = 1 ∧ rSr K (vs ++ zs) H2 Q E) M hK kb (fun q => ⟨q.1, q.2.1, fun y dx ny nd ne => rSr_of q.2.2 ny nd ne⟩) hr hx ha hkw hjk hg hall hks (by decide) he hpl
end
section
variable {P : Program} {w : World} {K : PySem.W.Frag} {mg : Str → Option Value} {base : Heap}
theorem scStepper__init__ : FnScope ["self", "program", "n", "start"] ["self", "program", "n", "start"] (defScope iStepper__init__) := ⟨rfl, rfl, rfl, by decide +kernel, rfl, by decide +kernel, by decide +kernel⟩
theorem ok_SrI {fd : FuncData} {kws : List (Str × V)} (F : FunD K "__init__" "Stepper.__init__" (defArgs iStepper__init__) (defBody iStepper__init__) (defScope iStepper__init__) [] kws (He.ma K (CSr K) "__init__") fd) (T : LwTx K mg) (G : SrTx K)
    (dCkRun : Dx P w K mg base 5 "check_run" ["program", "n"] (spCkRun K)) (dWorksOf : Dn P w K mg base 5 "works_of" ["program", "n"] (spWorksOf K)) (dFirstC : Dx P w K mg base 4 "first_cells" ["start"] (spFirstC K)) :
    FnOk P w K mg base (L2.CX P w) 6 (He.ma K (CSr K) "__init__") fd srps (spSrI K) := by
  refine F.ok scStepper__init__ (fun vs H Q E h => ?_) (fun cdv A outer s H vs Q E hr h => ?_)
  · obtain ⟨H0, p, dx, v, nv, ls, l, xs, gs, rfl, _⟩ := h
    rfl
  · obtain ⟨H0, p, dx, v, nv, ls, l, xs, gs, rfl, np, s0, hp, ob, ⟨l3, ok⟩, sq, dg, lg, lens, k⟩ := h
    refine ⟨_, (pss_cons (ps_expr (pe_dx (K := K) dCkRun rfl hr (fun σ => passAt (takes_of rfl rfl rfl rfl) σ) (pa_cons (pv 1) (pa_cons (pv 2) pa_nil))))
      (pss_cons (ps_fld (pv 0) (pv 1) rfl)
      (pss_cons (ps_fld (pv 0) (pv 2) rfl)
      (pss_cons (ps_fld (pv 0) (pe_dn dWorksOf hr (pa_cons (pv 1) (pa_cons (pv 2) pa_nil))) rfl)
      (pss_cons (ps_fld (pv 0) (pe_dx (K := K) dFirstC rfl hr (fun σ => passAt (takes_of rfl rfl rfl rfl) σ) (pa_cons (pv 3) pa_nil)) rfl)
      (pss_one (ps_fld (pv 0) (pe_lst pa_nil) rfl))))))), ?_⟩
    refine ⟨_, rfl, _, rfl, v, nv, ls, rfl, ob.same s0, l3, ok, ?_⟩
    rcases k with ⟨iv, k⟩ | ⟨n, rfl, k1, k2⟩
    · exact .inl ⟨iv.same s0, k.same s0⟩
    refine .inr ⟨n, rfl, fun z => (k1 z).same s0, fun hn => ⟨fun z => ((k2 hn).1 z).same s0, fun few H1 s1 => ?_⟩⟩
    obtain ⟨kb, k⟩ := (k2 hn).2 few
    have fewl : Few ls n := fun l hl => Int.le_trans (lpN_tot hl) few
    have s01 := s0.trans s1
    have hp1 := s1 _ _ hp
    refine ⟨_, rfl, _, rfl, p, _, dx, [], rfl, hp1, G.cl, G.nP, (by show 0 < 1000; decide), ?_⟩
    refine ⟨_, rfl, _, rfl, p, _, dx, _, rfl, upd_same, G.cl, G.nN, (by show 1 < 1000; decide), ?_⟩
    obtain ⟨H2, eH2⟩ : ∃ X, X = upd (upd H1 p (.ins (CSr K) dx (putF "program" v []))) p (.ins (CSr K) dx (putF "n" (.int n) (putF "program" v []))) := ⟨_, rfl⟩
    have hp2 : H2 p = some (.ins (CSr K) dx (putF "n" (.int n) (putF "program" v []))) := by rw [eH2]; exact upd_same
    have upS : ∀ {Ha Hb : Hp}, Same H0 Ha → Keep p Ha Hb → Same H0 Hb := fun sa kp b o e => kp _ _ (ne_of_none e np) (sa _ _ e)
    have s02 : Same H0 H2 := upS s01 fun b o nb e => by
      rw [eH2, upd_ne nb, upd_ne nb]
      exact e
    rw [← eH2]
    refine ⟨_, rfl, _, rfl, v, ls, n, rfl, ob.same s02, l3, ok, fewl, fun W H3 ws s3 hW eW dW => ?_⟩
    have hp3 := s3 _ _ hp2
    refine ⟨_, rfl, p, _, dx, _, rfl, hp3, G.cl, G.nW, (by show 2 < 1000; decide), ?_⟩
    obtain ⟨H4, eH4⟩ : ∃ X, X = upd H3 p (.ins (CSr K) dx (putF "works" (.ref W) (putF "n" (.int n) (putF "program" v [])))) := ⟨_, rfl⟩
    have hp4 : H4 p = some (.ins (CSr K) dx (putF "works" (.ref W) (putF "n" (.int n) (putF "program" v [])))) := by rw [eH4]; exact upd_same
    have kp4 : Keep p H3 H4 := fun b o nb e => by
      rw [eH4, upd_ne nb]
      exact e
    have s04 := upS (s02.trans s3) kp4
    rw [← eH4]
    refine ⟨_, rfl, l, xs, gs, rfl, SqA.same sq s04, dg.to (.of s04), by omega, lens, fun x hx => (kb x hx).same s04, fun gb a H5 s5 ne5 => ?_⟩
    have k := k gb
    have s05 := s04.trans s5
    have ne5 : Nest (fun b => H0 b = none) H5 a (giv gs) (2 * gs.length) := ne5.imp fun b e _ => by
      cases q : H0 b with
      | none => rfl
      | some o =>
        rw [s04 _ _ q] at e
        cases e
    have hp5 := s5 _ _ hp4
    have Wp : W ≠ p := fun z => by
      rw [z, hp3] at eW
      cases eW
    have nap : a ≠ p := fun z => by
      obtain ⟨kvs, e, _⟩ := ne5
      rw [z, hp5] at e
      cases e
    refine ⟨_, rfl, p, _, dx, _, rfl, hp5, G.cl, G.nC, (by show 3 < 1000; decide), ?_⟩
    obtain ⟨H6, eH6⟩ : ∃ X, X = upd H5 p (.ins (CSr K) dx (putF "cells" (.ref a) (putF "works" (.ref W) (putF "n" (.int n) (putF "program" v []))))) := ⟨_, rfl⟩
    have hp6 : H6 p = some (.ins (CSr K) dx (putF "cells" (.ref a) (putF "works" (.ref W) (putF "n" (.int n) (putF "program" v []))))) := by rw [eH6]; exact upd_same
    have kp6 : Keep p H5 H6 := fun b o nb e => by
      rw [eH6, upd_ne nb]
      exact e
    have s06 := upS s05 kp6
    rw [← eH6]
    refine ⟨(by decide), fun ov hov => ?_⟩
    have s7 := Same.new (.lst []) (Same.refl H6) hov
    obtain ⟨H7, eH7⟩ : ∃ X, X = upd H6 ov (.lst []) := ⟨_, rfl⟩
    have ov7 : H7 ov = some (.lst []) := by rw [eH7]; exact upd_same
    rw [← eH7] at s7
    rw [← eH7]
    have hp7 := s7 _ _ hp6
    have op : ov ≠ p := fun z => by
      rw [z, hp7] at ov7
      cases ov7
    refine ⟨_, rfl, p, _, dx, _, rfl, hp7, G.cl, G.nO, (by show 4 < 1000; decide), ?_⟩
    obtain ⟨H8, eH8⟩ : ∃ X, X = upd H7 p (.ins (CSr K) dx (srf v n W a ov)) := ⟨_, rfl⟩
    have hp8 : H8 p = some (.ins (CSr K) dx (srf v n W a ov)) := by rw [eH8]; exact upd_same
    have kp8 : Keep p H7 H8 := fun b o nb e => by
      rw [eH8, upd_ne nb]
      exact e
    have s08 := upS (s06.trans s7) kp8
    have k58 : ∀ b o, b ≠ p → H5 b = some o → H8 b = some o := fun b o nb e => kp8 _ _ nb (s7 _ _ (kp6 _ _ nb e))
    have eW4 := kp4 _ _ Wp eW
    have eW8 := k58 _ _ Wp (s5 _ _ eW4)
    have hW0 : H0 W = none := by
      cases q : H0 W with
      | none => rfl
      | some o =>
        rw [s02 _ _ q] at hW
        cases hW
    have hov0 : H0 ov = none := by
      cases q : H0 ov with
      | none => rfl
      | some o =>
        rw [s06 _ _ q] at hov
        cases hov
    have ts : TSame H3 H8 := fun b xs e => k58 _ _ (fun z => by rw [z, hp3] at e; cases e) (s5 _ _ (kp4 _ _ (fun z => by rw [z, hp3] at e; cases e) e))
    have Wov : W ≠ ov := fun z => by
      have q := kp6 _ _ Wp (s5 _ _ eW4)
      rw [z, hov] at q
      cases q
    have dk8 : ∀ b kvs, H5 b = some (.dK kvs) → H8 b = some (.dK kvs) := fun b kvs e => k58 _ _ (fun z => by
      rw [z, hp5] at e
      cases e) e
    have goal : SteAt (fun b => H0 b = none) K H8 p ls n (giv gs) 0 (2 * gs.length) :=
      ⟨dx, v, W, a, ov, ws, [], hp8, ob.same s08, eW8, hW0, Wov, dW.to ts, ne5.dk dk8, kp8 _ _ op ov7, hov0, Nat.zero_le _, .nil⟩
    rw [srf_def] at eH8
    rw [← eH8]
    exact k H8 s08 goal
end
end K28
set_option maxHeartbeats 4000000
namespace K28
open PySem PySem.Spec PyProof.Rows L2 Z
def spFar : Sp := fun vs H Q _ => ∃ (p pc : Addr) (t : Nat), vs = [.ref p] ∧ t < 800000000 ∧ PenC H p pc t ∧ ∀ H' (d : Int), 0 ≤ d → d < 10 ^ 30 → PenC H' p pc (t + 30) → Keep p H H' → Q (.int d) H'
section
variable {P : Program} {w : World} {K : PySem.W.Frag} {mg : Str → Option Value} {base : Heap}
theorem sc_law_far : FnScope ["_law_pen_here", "_law_way"] ["_law_pen_here"] (defScope s_law_far) := ⟨rfl, rfl, rfl, by decide +kernel, rfl, by decide +kernel, by decide +kernel⟩
theorem ok_far {f : Addr} {fd : FuncData} (F : FnP K "_law_far" s_law_far f fd) (T : LwTx K mg) (dDraw : Dn P w K mg base 1 "_law_draw" ["_law_pen_here", "_law_many"] spDrawC) (dBig : Dn P w K mg base 2 "_law_big" ["_law_pen_here", "_law_many"] spBigG) : FnOk P w K mg base CX0 3 f fd ["_law_pen_here"] spFar := by
  refine F.ok sc_law_far (fun vs H Q E h => ?_) (fun cdv A outer s H vs Q E hr h => ?_)
  · obtain ⟨p, pc, t, rfl, _⟩ := h
    rfl
  · obtain ⟨p, pc, t, rfl, ht, hP, k⟩ := h
    refine ⟨_, PSs.nox (pss_cons (ps_set (i := 1) sc_law_far.nd rfl (Or.inl rfl) (pe_dn dDraw hr (pa_cons (pv 0) (pa_cons pe_int pa_nil))))
      (pss_cons (ps_if (pt_cmpR op_eq (pv 1) pe_int (nomark _)) (pss_one (ps_ret (pe_dn dDraw hr (pa_cons (pv 0) (pa_cons pe_int pa_nil))))) pss_nil)
      (pss_cons (ps_if (pt_cmpR op_eq (pv 1) pe_int (nomark _)) (pss_one (ps_ret (pe_dn dDraw hr (pa_cons (pv 0) (pa_cons pe_int pa_nil))))) pss_nil)
      (pss_one (ps_ret (pe_dn dBig hr (pa_cons (pv 0) (pa_cons (pe_op op_pow pe_int pe_int) pa_nil)))))))), ?_⟩
    refine ⟨_, rfl, p, 3, t, pc, rfl, by decide, by decide, by omega, hP, fun H1 e e0 e1 hP1 k1 => ?_⟩
    refine ⟨_, rfl, rfl, _, rfl, ite2 (fun _ => ?_) (fun _ => ?_)⟩
    · refine ⟨_, rfl, p, 6, t + 1, pc, rfl, by decide, by decide, by omega, hP1, fun H2 d d0 d1 hP2 k2 => ?_⟩
      exact k _ _ d0 (by omega) (hP2.mono (by omega)) (k1.trans k2)
    · refine ⟨_, rfl, rfl, _, rfl, ite2 (fun _ => ?_) (fun _ => ?_)⟩
      · refine ⟨_, rfl, p, 600, t + 1, pc, rfl, by decide, by decide, by omega, hP1, fun H2 d d0 d1 hP2 k2 => ?_⟩
        exact k _ _ d0 (by omega) (hP2.mono (by omega)) (k1.trans k2)
      · refine ⟨_, rfl, _, _, rfl, rfl, ⟨by decide, by decide, by decide⟩, p, pc, _, t + 1, rfl, by decide, by decide, by omega, hP1, fun H2 d d0 d1 hP2 k2 => ?_⟩
        exact k _ _ d0 d1 (hP2.mono (by omega)) (k1.trans k2)
theorem sc_law_input : FnScope ["_law_array", "_law_cell", "_law_letters", "_law_letter"] ["_law_array", "_law_cell"] (defScope s_law_input) := ⟨rfl, rfl, rfl, by decide +kernel, rfl, by decide +kernel, by decide +kernel⟩
theorem ok_input {f : Addr} {fd : FuncData} (F : FnP K "_law_input" s_law_input f fd) (T : LwTx K mg) : FnOk P w K mg base CX0 1 f fd ["_law_array", "_law_cell"] spFirst := by
  refine F.ok sc_law_input (fun vs H Q E h => ?_) (fun cdv A outer s H vs Q E hr h => ?_)
  · obtain ⟨x, i, rfl, _⟩ := h
    rfl
  · obtain ⟨x, i, rfl, hx, k⟩ := h
    refine ⟨_, PSs.nox (pss_cons (ps_set (i := 2) sc_law_input.nd rfl (Or.inr rfl) pe_str)
      (pss_one (ps_ret (pe_op op_modN (pe_callTy call_int1 (by rfl) T.int (by decide +kernel) (pa_cons (pe_op op_add (pe_op op_add (pe_op op_mul pe_int (pv 1)) (pe_op op_mul pe_int (pe_callB (cr_sum rfl) (by rfl) T.sum (by decide +kernel) (pa_cons (pe_lc (own := [("_law_letter", 3)]) (g := gName 3) (tt := tYes) rfl sc_law_input.nd (pi_str (pv 0)) (blkOk_by (N := ["_law_array", "_law_cell", "_law_letters", "_law_letter"]) (sc := defScope s_law_input) (by decide +kernel)) (fun _ _ _ _ _ => (pg_name (i := 3) sc_law_input.nd rfl (.inl rfl))) (fun _ _ _ _ _ => pts_nil) (fun _ _ _ _ _ => (pe_op op_add (pe_bmK (K := K) rfl PySem.F.plainAttrs_str PySem.F.slot_str_index PySem.F.type_str_index mt_sindex (pv 2) (pa_cons (pv 3) pa_nil)) pe_int))) pa_nil)))) pe_int) pa_nil)) pe_int)))), ?_⟩
    refine normG (σ' := [some (.str x), some (.int i), some (.str lets), none]) rfl ?_
    refine ⟨_, rfl, _, _, rfl, rfl, .inl ⟨by decide, by decide⟩, _, rfl, x, rfl, fun D hD => ?_⟩
    refine lc_str (fun j Hc => Hc D = some (.lst (((x.cps.toList.take j).map fun (c : Nat) => ((c - 97 : Nat) : Int) + 1).map V.int)) ∧ Same H Hc) ⟨upd_same, Same.new _ (Same.refl H) hD⟩ ?_ ?_
    · rintro j c Hc hc ⟨hc1, hc2⟩
      have hj : j < x.cps.toList.length := by
        rw [Array.length_toList]
        exact (Array.getElem?_eq_some_iff.mp hc).1
      have cj : x.cps.toList[j]? = some c := by
        rw [Array.getElem?_toList]
        exact hc
      have cl := hx.2 c (List.mem_of_getElem? cj)
      obtain ⟨rest, hrest⟩ : ∃ rest, Builtin.Str.occurrences lets (sing c) 0 lets.length 1 = (c - 97) :: rest := by
        have q := let_ix c cl
        cases e : Builtin.Str.occurrences lets (sing c) 0 lets.length 1 with
        | nil =>
          rw [e] at q
          cases q
        | cons y r =>
          rw [e] at q
          have q : y = c - 97 := Option.some.inj q
          exact ⟨r, by rw [q]⟩
      refine ⟨rfl, yes_of ?_⟩
      refine ⟨_, rfl, rfl, _, rfl, lets, sing c, c - 97, rest, rfl, rfl, hrest, _, _, rfl, rfl, ?_⟩
      refine ⟨_, hc1, ?_, ?_, fun b o e => ?_⟩
      · rw [List.length_map, List.length_map, List.length_take]
        have : x.cps.toList.length = x.length := Array.length_toList
        have := sz1000
        have := hx.1
        omega
      · rw [upd_same, List.take_add_one, cj]
        simp
      · rw [upd_ne (ne_of_none e hD)]
        exact hc2 b o e
    · rintro Hc ⟨eD, sc⟩
      have e : x.cps.toList.take x.cps.size = x.cps.toList := List.take_of_length_le (Nat.le_of_eq Array.length_toList)
      rw [e] at eD
      refine ⟨D, _, rfl, SqL.of eD, ?_⟩
      refine ⟨_, _, rfl, rfl, .inl ⟨by decide, by decide⟩, _, _, rfl, rfl, _, _, rfl, rfl, .inl ⟨_, rfl, _, _, rfl, rfl, (by show (1000003 : Int) ≠ 0; decide), ?_⟩⟩
      exact k _ sc
/-- a dict of cells, as it is written flat -/
structure FlatR (kvs : List (List Key × V)) (f : Sto) (M : Nat) : Prop where
  len : kvs.length ≤ M
  look : ∀ c : Cell, valV kvs (cK c) = (f c.1 c.2).map V.int
  keys : ∃ cs : List Cell, kvs.map (·.1) = cs.map cK ∧ ∀ c ∈ cs, isName c.1 = true
def Flat (H : Hp) (a : Addr) (f : Sto) (M : Nat) : Prop := ∃ kvs, Rd H a (.dT kvs) ∧ FlatR kvs f M
def resD (c : Cell) (v : Int) : PyData := .tuple [cD c, .int v]
def spResult : Sp := fun vs H Q _ => ∃ (v : V) (s : StM) (i n : Int) (h : Addr) (f : Sto) (M : Nat), vs = [v, .int i, .int n, .ref h] ∧ DT H v (stD s) ∧ StOk s ∧ Flat H h f M ∧ ∀ t H', Same H H' → DT H' (.ref t) (resD (cellOf s i n) (wVal f s i n)) → Q (.ref t) H'
theorem sc_law_result : FnScope ["_law_row", "_law_i", "_law_n", "_law_held", "_law_total", "_law_array", "_law_place", "_law_many", "_law_cell"] ["_law_row", "_law_i", "_law_n", "_law_held"] (defScope s_law_result) := ⟨rfl, rfl, rfl, by decide +kernel, rfl, by decide +kernel, by decide +kernel⟩
theorem ok_result {f : Addr} {fd : FuncData} (F : FnP K "_law_result" s_law_result f fd) (T : LwTx K mg) (dValue : Dn P w K mg base 1 "_law_value" ["_law_row", "_law_i", "_law_n"] spValue) (dInput : Dn P w K mg base 1 "_law_input" ["_law_array", "_law_cell"] spFirst) :
    FnOk P w K mg base CX0 2 f fd ["_law_row", "_law_i", "_law_n", "_law_held"] spResult := by
  refine F.ok sc_law_result (fun vs H Q E h => ?_) (fun cdv A outer s H vs Q E hr h => ?_)
  · obtain ⟨v, s, i, n, h, f, M, rfl, _⟩ := h
    rfl
  · obtain ⟨v, s, i, n, h, f, M, rfl, dv, oks, ⟨kvs, hh, fr⟩, k⟩ := h
    have hu := hu_of hr
    obtain ⟨nmx, sm6, k0, k1, lr, _, okr, _⟩ := id oks
    obtain ⟨t0, q0, tr0, tg0, rs, gs0, rfl, h0, hq0, hr0, drs, _, _⟩ := dt_st dv
    refine ⟨_, PSs.nox (pss_cons (ps_set (i := 4) sc_law_result.nd rfl (Or.inl rfl) (pe_ix (ix_tupK (K := K) rfl) (pv 0) pe_int (fun _ _ => rfl)))
      (pss_cons (ps_for PassesOwn.never rfl (pi_tup (pe_ix (ix_tupK (K := K) rfl) (pv 0) pe_int (fun _ _ => rfl))) (pg_tup (by rfl) (pgs_cons (pg_name (i := 5) sc_law_result.nd rfl (.inl rfl)) (pgs_cons (pg_name (i := 6) sc_law_result.nd rfl (.inl rfl)) (pgs_cons (pg_name (i := 7) sc_law_result.nd rfl (.inl rfl)) pgs_nil)))) (pss_cons (ps_set (i := 8) sc_law_result.nd rfl (Or.inl rfl) (pe_tup (pa_cons (pv 5) (pa_cons (pe_dn dValue hr (pa_cons (pv 6) (pa_cons (pv 1) (pa_cons (pv 2) pa_nil)))) pa_nil))))
      (pss_one (ps_set (i := 4) sc_law_result.nd rfl (Or.inl rfl) (pe_op op_add (pv 4) (pe_op op_mul (pv 7) (pe_ifExp (pt_cmp (pc_din hu (pv 8) (pv 3))) (pe_dget hu (pv 3) (pv 8) (fun _ _ => rfl)) (pe_dn dInput hr (pa_cons (pv 5) (pa_cons (pe_ix (ix_tupK (K := K) rfl) (pv 8) pe_int (fun _ _ => rfl)) pa_nil))))))))))
      (pss_one (ps_ret (pe_tup (pa_cons (pe_tup (pa_cons (pe_ix (ix_tupK (K := K) rfl) (pv 0) pe_int (fun _ _ => rfl)) (pa_cons (pe_dn dValue hr (pa_cons (pe_ix (ix_tupK (K := K) rfl) (pv 0) pe_int (fun _ _ => rfl)) (pa_cons (pv 1) (pa_cons (pv 2) pa_nil)))) pa_nil))) (pa_cons (pe_op op_modN (pe_callTy call_int1 (by rfl) T.int (by decide +kernel) (pa_cons (pv 4) pa_nil)) pe_int) pa_nil))))))), ?_⟩
    refine ⟨_, rfl, t0, _, _, _, rfl, rfl, SqT.of h0, at2, ?_⟩
    refine normG (σ' := [some (.ref t0), some (.int i), some (.int n), some (.ref h), some (.int s.k), none, none, none, none]) rfl ?_
    refine ⟨_, rfl, t0, _, _, _, rfl, rfl, SqT.of h0, at3, tr0, rfl, ⟨_, SqT.of hr0⟩, ?_⟩
    have lrs : rs.length = s.rds.length := by rw [drs.len, List.length_map]
    refine for_tup (K := K) (xs := rs) (fun j σ H' => ∃ v5 v6 v7 v8 : Option V, σ = [some (.ref t0), some (.int i), some (.int n), some (.ref h), some (.int (s.k + ((s.rds.take j).map fun r => r.f * held f (rdCell r i n).1 (rdCell r i n).2).sum)), v5, v6, v7, v8] ∧ Same H H')
      ⟨none, none, none, none, (by simp), Same.refl H⟩ (fun j σ H' _ z => by
        obtain ⟨_, _, _, _, _, s'⟩ := z
        exact SqT.of (s' _ _ hr0)) ?_ ?_
    · rintro j rv σ H1 hrv ⟨v5, v6, v7, v8, rfl, s1⟩
      obtain ⟨r, er, dr⟩ := (drs.to (.of s1)).map' hrv
      have okr1 := okr r (List.mem_of_getElem? er)
      obtain ⟨tt, q, rfl, htt, hq⟩ := dt_rd dr
      obtain ⟨nmr, smr, rd1, rd3, rf0, rf1, rf2⟩ := id okr1
      have sm := sm3_a smr
      refine ⟨tt, _, rfl, SqT.of htt, rfl, _, _, rfl, _, _, rfl, _, _, rfl, rfl, ?_⟩
      obtain ⟨tot0, etot⟩ : ∃ z, z = s.k + ((s.rds.take j).map fun r => r.f * held f (rdCell r i n).1 (rdCell r i n).2).sum := ⟨_, rfl⟩
      rw [← etot]
      refine norm (σ' := [some (.ref t0), some (.int i), some (.int n), some (.ref h), some (.int tot0), some (.str r.x), some (.ref q), some (.int r.f), v8]) rfl ?_
      refine ⟨_, rfl, _, rfl, _, rfl, _, rfl, q, r.a, r.b, r.c, i, n, _, rfl, hq, sm.1, sm.2, .inr ⟨r.d, rfl, rd1, rd3, sz2, fun c hc => ?_⟩⟩
      have cc : (r.a * i + r.b * n + r.c).fdiv r.d = (rdCell r i n).2 := rfl
      rw [cc]
      have s2 := Same.new (.tup [.str r.x, .int (rdCell r i n).2]) (Same.refl H1) hc
      obtain ⟨H2, eH2⟩ : ∃ X, X = upd H1 c (.tup [.str r.x, .int (rdCell r i n).2]) := ⟨_, rfl⟩
      have hc2 : H2 c = some (.tup ((cK (rdCell r i n)).map kV)) := by rw [eH2]; exact upd_same
      rw [← eH2] at s2
      rw [← eH2]
      refine normG (σ' := [some (.ref t0), some (.int i), some (.int n), some (.ref h), some (.int tot0), some (.str r.x), some (.ref q), some (.int r.f), some (.ref c)]) rfl ?_
      have s02 := s1.trans s2
      have gd := DGet.r (k := cK (rdCell r i n)) (rd_same hh s02) hc2
      rw [fr.look] at gd
      have fin : ∀ H3, Same H2 H3 → ∃ v5 v6 v7 v8 : Option V, [some (V.ref t0), some (.int i), some (.int n), some (.ref h), some (.int (tot0 + r.f * held f (rdCell r i n).1 (rdCell r i n).2)), some (.str r.x), some (.ref q), some (.int r.f), some (.ref c)] = [some (V.ref t0), some (.int i), some (.int n), some (.ref h), some (.int (s.k + ((s.rds.take (j + 1)).map fun r => r.f * held f (rdCell r i n).1 (rdCell r i n).2).sum)), v5, v6, v7, v8] ∧ Same H H3 := fun H3 s3 => by
        have e : tot0 + r.f * held f (rdCell r i n).1 (rdCell r i n).2 = s.k + ((s.rds.take (j + 1)).map fun r => r.f * held f (rdCell r i n).1 (rdCell r i n).2).sum := by
          rw [etot, List.take_add_one, er, List.map_append, List.sum_append]
          show _ = s.k + (_ + (r.f * held f (rdCell r i n).1 (rdCell r i n).2 + 0))
          omega
        rw [e]
        exact ⟨_, _, _, _, rfl, s02.trans s3⟩
      refine ⟨_, rfl, _, rfl, _, rfl, _, rfl, h, _, rfl, gd, ?_⟩
      cases ef : f (rdCell r i n).1 (rdCell r i n).2 with
      | none =>
        have hk : held f (rdCell r i n).1 (rdCell r i n).2 = first (rdCell r i n).1 (rdCell r i n).2 := by unfold held; rw [ef]
        rw [hk] at fin
        refine ⟨_, rfl, if_no rfl ⟨_, rfl, _, rfl, c, _, _, _, rfl, rfl, SqT.of hc2, at1, _, _, rfl, lets_of nmr.1, fun H3 s3 => ?_⟩⟩
        exact ⟨_, _, rfl, rfl, .inl ⟨by omega, by omega⟩, _, _, rfl, rfl, fin H3 s3⟩
      | some u =>
        have hk : held f (rdCell r i n).1 (rdCell r i n).2 = u := by unfold held; rw [ef]
        rw [hk] at fin
        rw [ef] at gd
        refine ⟨_, rfl, iteT ⟨_, rfl, _, rfl, h, _, rfl, gd, ?_⟩⟩
        exact ⟨_, _, rfl, rfl, .inl ⟨by omega, by omega⟩, _, _, rfl, rfl, fin H2 (Same.refl _)⟩
    · rintro σ H1 ⟨v5, v6, v7, v8, rfl, s1⟩
      rw [lrs, List.take_length]
      have sm := sm3_a sm6
      refine ⟨_, rfl, t0, _, _, _, rfl, rfl, SqT.of (s1 _ _ h0), at0, _, rfl, t0, _, _, _, rfl, rfl, SqT.of (s1 _ _ h0), at1, _, rfl, _, rfl, q0, s.a, s.b, s.c, i, n, _, rfl, s1 _ _ hq0, sm.1, sm.2, .inl ⟨rfl, sz2, fun c hc => ?_⟩⟩
      have s2 := Same.new (.tup [.str s.x, .int (s.a * i + s.b * n + s.c)]) (Same.refl H1) hc
      refine ⟨_, rfl, .inl ⟨_, rfl, _, _, rfl, rfl, (by show (1000003 : Int) ≠ 0; decide), sz2, fun t ht => ?_⟩⟩
      have s3 := Same.new (.tup [.ref c, .int ((s.k + (s.rds.map fun r => r.f * held f (rdCell r i n).1 (rdCell r i n).2).sum).fmod 1000003)]) (Same.refl _) ht
      exact k t _ (s1.trans (s2.trans s3)) (.tup upd_same (.cons (.tup (s3 _ _ upd_same) (.cons (.str _) (.cons (.int _) .nil))) (.cons (.int _) .nil)))
end
end K28
set_option maxHeartbeats 4000000
namespace K28
open PySem PySem.Spec PyProof.Rows L2 Z
def FlatD (H : Hp) (a : Addr) (f : Sto) (M : Nat) : Prop := ∃ kvs, H a = some (.dT kvs) ∧ FlatR kvs f M
def spStates : Sp := fun vs H Q _ => ∃ (r l : Addr) (xs ys : List V) (ls : List LpM) (n : Int) (gs : List Gv), vs = [.ref r, .int n, .ref l] ∧ H r = some (.lst xs) ∧ DTs H xs (ls.map lpD) ∧ ls.length ≤ 3 ∧ (∀ l ∈ ls, LpOk l) ∧ 0 ≤ n ∧ n ≤ 8 ∧ H l = some (.lst ys) ∧ DTs H ys (gs.map gvD) ∧ gs.length ≤ 1000 ∧ (∀ g ∈ gs, isName g.1 = true) ∧
  ∀ (T W F : Addr) (H' : Hp) (ws fs : List V), Same H H' → H' T = some (.tup [.ref W, .ref F]) → H' W = some (.lst ws) → DTs H' ws ((works ls n).map wD) → H' F = some (.lst fs) → fs.length = (works ls n).length + 1 →
    (∀ j, j ≤ (works ls n).length → ∃ a, fs[j]? = some (.ref a) ∧ FlatD H' a (ran ls n ((works ls n).take j) (giv gs)) 2000) → Q (.ref T) H'
theorem FlatD.flat {H : Hp} {a : Addr} {f : Sto} {M : Nat} (h : FlatD H a f M) : Flat H a f M := by
  obtain ⟨kvs, h1, h2⟩ := h
  exact ⟨kvs, .inl h1, h2⟩
theorem FlatD.to {H H' : Hp} {a : Addr} {f : Sto} {M : Nat} (h : FlatD H a f M) (k : ∀ o, H a = some o → H' a = some o) : FlatD H' a f M := by
  obtain ⟨kvs, h1, h2⟩ := h
  exact ⟨kvs, k _ h1, h2⟩
theorem FlatR.up {kvs : List (List Key × V)} {f : Sto} {M M' : Nat} (h : FlatR kvs f M) (e : M ≤ M') : FlatR kvs f M' := ⟨Nat.le_trans h.len e, h.look, h.keys⟩
theorem FlatR.nil {M : Nat} : FlatR [] (fun _ _ => none) M := ⟨Nat.zero_le _, fun _ => rfl, [], rfl, fun _ h => by cases h⟩
theorem cK_iff {a b : Cell} : cK a = cK b ↔ a = b := ⟨cK_inj, fun e => by rw [e]⟩
theorem FlatR.put {kvs : List (List Key × V)} {f : Sto} {M : Nat} {c : Cell} {v : Int} (h : FlatR kvs f M) (nc : isName c.1 = true) : FlatR (putK kvs (cK c) (.int v)) (sPut f c.1 c.2 (some v)) (M + 1) := by
  refine ⟨Nat.le_trans (length_putK _ _ _) (Nat.succ_le_succ h.len), fun d => ?_, ?_⟩
  · rw [valV_put, h.look]
    unfold sPut
    by_cases z : d = c
    · rw [if_pos (by rw [z]), if_pos ⟨by rw [z], by rw [z]⟩]
      rfl
    · rw [if_neg (fun q => z (cK_inj q)), if_neg (fun q => z (Prod.ext q.1 q.2))]
  · obtain ⟨cs, e1, e2⟩ := h.keys
    rw [keys_put]
    by_cases z : (valV kvs (cK c)).isSome = true
    · rw [if_pos z]
      exact ⟨cs, e1, e2⟩
    · rw [if_neg z]
      refine ⟨cs ++ [c], by rw [e1, List.map_append]; rfl, fun d hd => ?_⟩
      rcases List.mem_append.mp hd with q | q
      · exact e2 d q
      · rw [List.mem_singleton.mp q]
        exact nc
/-- the first j keys of a dict alone -/
def part (kvs : List (List Key × V)) (f : Sto) (j : Nat) : Sto := fun x i => if (valV (kvs.take j) (cK (x, i))).isSome = true then f x i else none
theorem part_zero {kvs : List (List Key × V)} {f : Sto} : part kvs f 0 = fun _ _ => none := by
  funext x i
  unfold part
  rw [List.take_zero]
  exact if_neg (by simp [valV_nil])
theorem part_succ {kvs : List (List Key × V)} {f : Sto} {j : Nat} {c : Cell} {v : V} (h : kvs[j]? = some (cK c, v)) : part kvs f (j + 1) = sPut (part kvs f j) c.1 c.2 (f c.1 c.2) := by
  funext x i
  have key : (valV (kvs.take (j + 1)) (cK (x, i))).isSome = true ↔ (valV (kvs.take j) (cK (x, i))).isSome = true ∨ (x, i) = c := by
    rw [keys_in, keys_in, List.take_add_one, h, List.map_append, List.mem_append]
    have : cK (x, i) ∈ List.map (fun e : List Key × V => e.1) (some (cK c, v)).toList ↔ (x, i) = c := by
      show cK (x, i) ∈ [cK c] ↔ _
      rw [List.mem_singleton]
      exact cK_iff
    rw [this]
  unfold part sPut
  by_cases z : (x, i) = c
  · have z1 : x = c.1 ∧ i = c.2 := ⟨congrArg Prod.fst z, congrArg Prod.snd z⟩
    rw [if_pos z1, if_pos (key.mpr (.inr z)), z1.1, z1.2]
  · have z1 : ¬ (x = c.1 ∧ i = c.2) := fun q => z (Prod.ext q.1 q.2)
    rw [if_neg z1]
    show _ = if (valV (kvs.take j) (cK (x, i))).isSome = true then f x i else none
    by_cases q : (valV (kvs.take j) (cK (x, i))).isSome = true
    · rw [if_pos q, if_pos (key.mpr (.inl q))]
    · rw [if_neg q, if_neg fun u => (key.mp u).elim q z]
theorem part_all {kvs : List (List Key × V)} {f : Sto} {M : Nat} (h : FlatR kvs f M) : part kvs f kvs.length = f := by
  funext x i
  unfold part
  rw [List.take_length, h.look (x, i)]
  show (if ((f x i).map V.int).isSome = true then f x i else none) = f x i
  cases e : f x i <;> rfl
theorem atI_lastN {xs : List V} {i : Nat} {v : V} (h : xs.length = i + 1) (e : xs[i]? = some v) : atI xs (-1) = some v := by
  have q : xs = xs.take i ++ [v] := by
    have := List.take_add_one (l := xs) (i := i)
    rw [e, List.take_of_length_le (Nat.le_of_eq h)] at this
    exact this
  rw [q]
  exact atI_last
section
variable {P : Program} {w : World} {K : PySem.W.Frag} {mg : Str → Option Value} {base : Heap}
theorem sc_law_states : FnScope ["_law_rows", "_law_n", "_law_given", "_law_works_here", "_law_held", "_law_array", "_law_cell", "_law_value_here", "_law_found", "_law_work", "_law_more", "_law_key"] ["_law_rows", "_law_n", "_law_given"] (defScope s_law_states) := ⟨rfl, rfl, rfl, by decide +kernel, rfl, by decide +kernel, by decide +kernel⟩
theorem ok_states {f : Addr} {fd : FuncData} (F : FnP K "_law_states" s_law_states f fd) (T : LwTx K mg) (dWorks : Dn P w K mg base 3 "_law_works" ["_law_rows", "_law_n"] spWorks) (dResult : Dn P w K mg base 2 "_law_result" ["_law_row", "_law_i", "_law_n", "_law_held"] spResult) : FnOk P w K mg base CX0 4 f fd ["_law_rows", "_law_n", "_law_given"] spStates := by
  refine F.ok sc_law_states (fun vs H Q E h => ?_) (fun cdv A outer s H vs Q E hr h => ?_)
  · obtain ⟨r, l, xs, ys, ls, n, gs, rfl, _⟩ := h
    rfl
  · obtain ⟨r, l, xs, ys, ls, n, gs, rfl, hr0, ds, l3, ok, n0, n8, hl0, dg, lg, ng, k⟩ := h
    have hu := hu_of hr
    refine ⟨_, PSs.nox (pss_cons (ps_par (i := 3) (j := 4) (by rfl) sc_law_states.nd rfl rfl (by decide) rfl rfl (pa_cons (pe_dn dWorks hr (pa_cons (pv 0) (pa_cons (pv 1) pa_nil))) (pa_cons pe_dnewT pa_nil)) (by rfl))
      (pss_cons (ps_for PassesOwn.never rfl (pi_list (pv 2)) (pg_tup (by rfl) (pgs_cons (pg_name (i := 5) sc_law_states.nd rfl (.inl rfl)) (pgs_cons (pg_name (i := 6) sc_law_states.nd rfl (.inl rfl)) (pgs_cons (pg_name (i := 7) sc_law_states.nd rfl (.inl rfl)) pgs_nil)))) (pss_one (ps_dput hu (pv 4) (pe_tup (pa_cons (pv 5) (pa_cons (pv 6) pa_nil))) (pe_op op_modN (pe_callTy call_int1 (by rfl) T.int (by decide +kernel) (pa_cons (pv 7) pa_nil)) pe_int) rfl)))
      (pss_cons (ps_set (i := 8) sc_law_states.nd rfl (Or.inl rfl) (pe_lst (pa_cons (pv 4) pa_nil)))
      (pss_cons (ps_for PassesOwn.never rfl (pi_list (pv 3)) (pg_name (i := 9) sc_law_states.nd rfl (.inl rfl)) (pss_cons (ps_asg (pe_dn dResult hr (pa_cons (pe_ix (ix_tupK (K := K) rfl) (pe_ix (ix_tupK (K := K) rfl) (pe_ix ix_list (pv 0) (pe_ix (ix_tupK (K := K) rfl) (pv 9) pe_int (fun _ _ => rfl)) (fun _ _ => rfl)) pe_int (fun _ _ => rfl)) (pe_ix (ix_tupK (K := K) rfl) (pv 9) pe_int (fun _ _ => rfl)) (fun _ _ => rfl)) (pa_cons (pe_ix (ix_tupK (K := K) rfl) (pv 9) pe_int (fun _ _ => rfl)) (pa_cons (pv 1) (pa_cons (pe_ix ix_list (pv 8) (pe_un un_neg pe_int) (fun _ _ => rfl)) pa_nil))))) (pg_tup (by rfl) (pgs_cons (pg_name (i := 6) sc_law_states.nd rfl (.inl rfl)) (pgs_cons (pg_name (i := 7) sc_law_states.nd rfl (.inl rfl)) pgs_nil))))
      (pss_cons (ps_set (i := 10) sc_law_states.nd rfl (Or.inl rfl) pe_dnewT)
      (pss_cons (ps_lock (ps_for PassesOwn.never rfl (pi_keys (pe_ix ix_list (pv 8) (pe_un un_neg pe_int) (fun _ _ => rfl))) (pg_name (i := 11) sc_law_states.nd rfl (.inl rfl)) (pss_one (ps_dput hu (pv 10) (pv 11) (pe_dget hu (pe_ix ix_list (pv 8) (pe_un un_neg pe_int) (fun _ _ => rfl)) (pv 11) (fun _ _ => rfl)) rfl))))
      (pss_cons (ps_dput hu (pv 10) (pv 6) (pv 7) rfl)
      (pss_one (ps_expr (pe_bm PySem.F.plainAttrs_list PySem.F.slot_list_append PySem.F.type_list_append mt_append (pv 8) (pa_cons (pv 10) pa_nil)))))))))
      (pss_one (ps_ret (pe_tup (pa_cons (pv 3) (pa_cons (pv 8) pa_nil))))))))), ?_⟩
    refine ⟨_, rfl, _, rfl, r, xs, ls, n, rfl, hr0, ds, l3, ok, n0, n8, fun W H1 ws s1 hW eW dW => ?_⟩
    refine fun D hD => ?_
    refine ⟨_, _, rfl, ?_⟩
    have sD := Same.new (.dT []) (Same.refl H1) hD
    obtain ⟨H2, eH2⟩ : ∃ X, X = upd H1 D (.dT []) := ⟨_, rfl⟩
    have eD2 : H2 D = some (.dT []) := by rw [eH2]; exact upd_same
    rw [← eH2] at sD
    rw [← eH2]
    have s02 := s1.trans sD
    have eW2 := sD _ _ eW
    have hHD : H D = none := by
      cases q : H D with
      | none => rfl
      | some o =>
        rw [s1 _ _ q] at hD
        cases hD
    refine norm (σ' := [some (.ref r), some (.int n), some (.ref l), some (.ref W), some (.ref D), none, none, none, none, none, none, none]) rfl ?_
    have lys : ys.length = gs.length := by rw [dg.len, List.length_map]
    have nDW : D ≠ W := fun z => by
      rw [z, eW2] at eD2
      cases eD2
    refine ⟨_, rfl, l, rfl, ⟨_, SqL.of (s02 _ _ hl0)⟩, ?_⟩
    refine for_list (K := K) (xs := ys) (fun i σ H' => ∃ v5 v6 v7 : Option V, σ = [some (.ref r), some (.int n), some (.ref l), some (.ref W), some (.ref D), v5, v6, v7, none, none, none, none] ∧ FlatD H' D (giv (gs.take i)) i ∧ Same H H' ∧ (∀ b o, b ≠ D → H2 b = some o → H' b = some o))
      ⟨none, none, none, rfl, ⟨[], eD2, FlatR.nil⟩, s02, fun _ _ _ e => e⟩ (fun i σ H' _ z => by
        obtain ⟨_, _, _, _, _, s', _⟩ := z
        exact SqL.of (s' _ _ hl0)) ?_ ?_
    · rintro i gv σ H3 hgv ⟨v5, v6, v7, rfl, ⟨kvs, eD3, fr⟩, s3, k3⟩
      obtain ⟨g, hg, dgv⟩ := (dg.to (.of s3)).map' hgv
      obtain ⟨t, rfl, ht⟩ := dt_gv dgv
      have hi : i < gs.length := (List.getElem?_eq_some_iff.mp hg).1
      refine ⟨t, _, rfl, SqT.of ht, rfl, _, _, rfl, _, _, rfl, _, _, rfl, rfl, ?_⟩
      refine norm (σ' := [some (.ref r), some (.int n), some (.ref l), some (.ref W), some (.ref D), some (.str g.1), some (.int g.2.1), some (.int g.2.2), none, none, none, none]) rfl ?_
      refine ⟨_, rfl, .inl ⟨_, rfl, _, _, rfl, rfl, (by show (1000003 : Int) ≠ 0; decide), _, rfl, _, rfl, _, rfl, sz2, fun c hc => ?_⟩⟩
      have sc := Same.new (.tup [.str g.1, .int g.2.1]) (Same.refl H3) hc
      have ec : (upd H3 c (.tup [.str g.1, .int g.2.1])) c = some (.tup ((cK (g.1, g.2.1)).map kV)) := upd_same
      have lk := fr.len
      refine ⟨D, _, rfl, DPut.t (sc _ _ eD3) ec (sz1l _ (by omega)), ?_⟩
      refine ⟨_, _, _, rfl, ⟨_, upd_same, ?_⟩, fun b o e => ?_, fun b o nb e => ?_⟩
      · rw [giv_snoc hg]
        exact fr.put (c := (g.1, g.2.1)) (ng g (List.mem_of_getElem? hg))
      · rw [upd_ne (ne_of_none e hHD)]
        exact sc _ _ (s3 _ _ e)
      · rw [upd_ne nb]
        exact sc _ _ (k3 _ _ nb e)
    rintro σ H3 ⟨v5, v6, v7, rfl, fd3, s3, k3⟩
    rw [lys, List.take_length] at fd3
    have eW3 := k3 _ _ nDW.symm eW2
    have ts3 : TSame H1 H3 := fun b xs e => k3 _ _ (fun z => by rw [z, hD] at e; cases e) (sD _ _ e)
    refine ⟨_, rfl, sz1, fun F hF => ?_⟩
    have sF := Same.new (.lst [.ref D]) (Same.refl H3) hF
    obtain ⟨H4, eH4⟩ : ∃ X, X = upd H3 F (.lst [.ref D]) := ⟨_, rfl⟩
    have eF4 : H4 F = some (.lst [.ref D]) := by rw [eH4]; exact upd_same
    rw [← eH4] at sF
    rw [← eH4]
    have hHF : H F = none := by
      cases q : H F with
      | none => rfl
      | some o =>
        rw [s3 _ _ q] at hF
        cases hF
    have eW4 := sF _ _ eW3
    have nWF : W ≠ F := ne_of_none eW3 hF
    refine normG (σ' := [some (.ref r), some (.int n), some (.ref l), some (.ref W), some (.ref D), v5, v6, v7, some (.ref F), none, none, none]) rfl ?_
    have lws : ws.length = (works ls n).length := by rw [dW.len, List.length_map]
    have wlen := works_len ok l3 n0 n8
    have dW4 := dW.to (ts3.trans (.of sF))
    refine ⟨_, rfl, W, rfl, ⟨_, SqL.of eW4⟩, ?_⟩
    refine for_list (K := K) (xs := ws) (fun i σ H' => ∃ (v5 v6 v7 v9 v10 v11 : Option V) (fs : List V), σ = [some (.ref r), some (.int n), some (.ref l), some (.ref W), some (.ref D), v5, v6, v7, some (.ref F), v9, v10, v11] ∧
        H' W = some (.lst ws) ∧ H' F = some (.lst fs) ∧ fs.length = i + 1 ∧ (∀ j, j ≤ i → ∃ a, fs[j]? = some (.ref a) ∧ FlatD H' a (ran ls n ((works ls n).take j) (giv gs)) (1000 + j)) ∧ Same H H' ∧ TSame H4 H')
      ⟨v5, v6, v7, none, none, none, [.ref D], rfl, eW4, eF4, rfl, fun j hj => ?_, s3.trans sF, .refl _⟩ (fun i σ H' _ z => by
        obtain ⟨_, _, _, _, _, _, _, _, e, _⟩ := z
        exact SqL.of e) ?_ ?_
    · obtain rfl : j = 0 := by omega
      refine ⟨D, rfl, ?_⟩
      obtain ⟨kvs, e1, e2⟩ := fd3
      exact ⟨kvs, sF _ _ e1, e2.up (by omega)⟩
    · rintro i wv σ H5 hwv ⟨v5, v6, v7, v9, v10, v11, fs, rfl, eW5, eF5, lfs, fl5, s5, ts5⟩
      obtain ⟨w0, hw, dw⟩ := (dW4.to ts5).map' hwv
      obtain ⟨tw, rfl, htw⟩ := dt_w dw
      have hi : i < (works ls n).length := (List.getElem?_eq_some_iff.mp hw).1
      obtain ⟨w1, j, q, l0, s, hw1, hj, hq, hl, hs, oks, hst⟩ := works_at ok hi
      rw [hw] at hw1
      cases hw1
      obtain ⟨vl, hvl, dvl⟩ := DTs.get j _ (ds.to (.of s5)) (by rw [List.getElem?_map, hl]; rfl)
      obtain ⟨t, q1, q2, ts, zs, rfl, ht, _, _, hts, dst⟩ := dt_lp dvl
      obtain ⟨vs6, hvs6, dvs6⟩ := DTs.get q _ dst (by rw [List.getElem?_map, hs]; rfl)
      obtain ⟨L, hLi, fdL⟩ := fl5 i (Nat.le_refl _)
      refine normG (σ' := [some (.ref r), some (.int n), some (.ref l), some (.ref W), some (.ref D), v5, v6, v7, some (.ref F), some (.ref tw), v10, v11]) rfl ?_
      refine ⟨_, rfl, _, rfl, tw, _, _, _, rfl, rfl, SqT.of htw, at0, r, _, _, _, rfl, rfl, SqL.of (s5 _ _ hr0), (by rw [hj]; exact atI_nat hvl), t, _, _, _, rfl, rfl, SqT.of ht, at4, _, rfl, tw, _, _, _, rfl, rfl, SqT.of htw, at2, ts, _, _, _, rfl, rfl, SqT.of hts, (by rw [hq]; exact atI_nat hvs6), ?_⟩
      refine ⟨_, rfl, tw, _, _, _, rfl, rfl, SqT.of htw, at1, _, rfl, _, rfl, _, rfl, F, _, _, _, rfl, rfl, SqL.of eF5, atI_lastN lfs hLi, ?_⟩
      refine ⟨_, s, w0.2.1, n, L, _, _, rfl, dvs6, oks, fdL.flat, fun t6 H6 s6 d6 => ?_⟩
      obtain ⟨rt, rxs, e6, hrt, drx⟩ := DT.tup' d6
      cases e6
      obtain ⟨ct, hrt2, hct⟩ : ∃ ct, H6 t6 = some (.tup [.ref ct, .int (wVal (ran ls n ((works ls n).take i) (giv gs)) s w0.2.1 n)]) ∧ H6 ct = some (.tup [.str (cellOf s w0.2.1 n).1, .int (cellOf s w0.2.1 n).2]) := by
        cases drx with
        | cons a b =>
          cases b with
          | cons b c =>
            cases c
            cases b
            obtain ⟨ct, rfl, hct⟩ := dt_c a
            exact ⟨ct, hrt, hct⟩
      obtain ⟨val, hval⟩ : ∃ val, val = wVal (ran ls n ((works ls n).take i) (giv gs)) s w0.2.1 n := ⟨_, rfl⟩
      rw [← hval] at hrt2
      refine ⟨t6, _, rfl, SqT.of hrt2, rfl, _, _, rfl, _, _, rfl, rfl, ?_⟩
      refine norm (σ' := [some (.ref r), some (.int n), some (.ref l), some (.ref W), some (.ref D), v5, some (.ref ct), some (.int val), some (.ref F), some (.ref tw), v10, v11]) rfl ?_
      refine fun X hX => ?_
      have s7 := Same.new (.dT []) (Same.refl H6) hX
      obtain ⟨H7, eH7⟩ : ∃ Z, Z = upd H6 X (.dT []) := ⟨_, rfl⟩
      have eX7 : H7 X = some (.dT []) := by rw [eH7]; exact upd_same
      rw [← eH7] at s7
      rw [← eH7]
      have s57 := s6.trans s7
      have s07 := s5.trans s57
      have hHX : H X = none := by
        cases q : H X with
        | none => rfl
        | some o =>
          rw [s6 _ _ (s5 _ _ q)] at hX
          cases hX
      have eF7 := s57 _ _ eF5
      have eW7 := s57 _ _ eW5
      have nXF : F ≠ X := ne_of_none (s6 _ _ eF5) hX
      have nXW : W ≠ X := ne_of_none (s6 _ _ eW5) hX
      obtain ⟨kvs, eL5, frL⟩ := id fdL
      have eL7 := s57 _ _ eL5
      have nXL : L ≠ X := ne_of_none (s6 _ _ eL5) hX
      have nFL : F ≠ L := fun z => by
        rw [z, eL5] at eF5
        cases eF5
      refine normG (σ' := [some (.ref r), some (.int n), some (.ref l), some (.ref W), some (.ref D), v5, some (.ref ct), some (.int val), some (.ref F), some (.ref tw), some (.ref X), v11]) rfl ?_
      refine ⟨L, .dT kvs, eL7, trivial, fun od => ?_⟩
      obtain ⟨H8, eH8⟩ : ∃ Z, Z = upd H7 L (.frz od (.dT kvs)) := ⟨_, rfl⟩
      have eL8 : H8 L = some (.frz od (.dT kvs)) := by rw [eH8]; exact upd_same
      have eF8 : H8 F = some (.lst fs) := by rw [eH8, upd_ne nFL]; exact eF7
      have eX8 : H8 X = some (.dT []) := by rw [eH8, upd_ne nXL.symm]; exact eX7
      rw [← eH8]
      refine ⟨_, rfl, _, rfl, F, _, _, _, rfl, rfl, SqL.of eF8, atI_lastN lfs hLi, L, od, rfl, .inr ⟨kvs, eL8, ?_⟩⟩
      have lk := frL.len
      refine for_it (walk_keysT (d := L) (o := od) (kvs := kvs)) (fun j σ H' => ∃ v11 : Option V, σ = [some (.ref r), some (.int n), some (.ref l), some (.ref W), some (.ref D), v5, some (.ref ct), some (.int val), some (.ref F), some (.ref tw), some (.ref X), v11] ∧
          FlatD H' X (part kvs (ran ls n ((works ls n).take i) (giv gs)) j) j ∧ (∀ b o, b ≠ X → H8 b = some o → H' b = some o)) ⟨v11, rfl, ⟨[], eX8, by rw [part_zero]; exact FlatR.nil⟩, fun _ _ _ e => e⟩ (fun j σ H' _ z => by
        obtain ⟨_, _, _, k8⟩ := z
        exact k8 _ _ nXL eL8) ?_ ?_
      · rintro j x σ Hc H' lt ⟨v11, rfl, ⟨kx, eXc, frX⟩, k8⟩ ⟨rfl, ky, v, qa, hk, rfl, hqa⟩
        obtain ⟨c, rfl⟩ : ∃ c, ky = cK c := by
          obtain ⟨cs, e1, _⟩ := frL.keys
          have : ky ∈ kvs.map (·.1) := List.mem_map.mpr ⟨_, List.mem_of_getElem? hk, rfl⟩
          rw [e1] at this
          obtain ⟨c, _, e⟩ := List.mem_map.mp this
          exact ⟨c, e.symm⟩
        have nc : isName c.1 = true := by
          obtain ⟨cs, e1, e2⟩ := frL.keys
          have : cK c ∈ kvs.map (·.1) := List.mem_map.mpr ⟨_, List.mem_of_getElem? hk, rfl⟩
          rw [e1] at this
          obtain ⟨d, hd, e⟩ := List.mem_map.mp this
          rw [← cK_inj e]
          exact e2 d hd
        have vc := frL.look c
        obtain ⟨u, hu2⟩ : ∃ u, ran ls n ((works ls n).take i) (giv gs) c.1 c.2 = some u := by
          have q : (valV kvs (cK c)).isSome = true := keys_in.mpr (List.mem_map.mpr ⟨_, List.mem_of_getElem? hk, rfl⟩)
          rw [vc] at q
          cases e : ran ls n ((works ls n).take i) (giv gs) c.1 c.2 with
          | none =>
            rw [e] at q
            cases q
          | some u => exact ⟨u, rfl⟩
        rw [hu2] at vc
        have gd := DGet.r (k := cK c) (a := L) (kvs := kvs) (.inr ⟨od, k8 _ _ nXL eL8⟩) hqa
        rw [vc] at gd
        have lx := frX.len
        refine normG (σ' := [some (.ref r), some (.int n), some (.ref l), some (.ref W), some (.ref D), v5, some (.ref ct), some (.int val), some (.ref F), some (.ref tw), some (.ref X), some (.ref qa)]) rfl ?_
        refine ⟨_, rfl, _, rfl, F, _, _, _, rfl, rfl, SqL.of (k8 _ _ nXF eF8), atI_lastN lfs hLi, _, rfl, L, _, rfl, gd, ?_⟩
        refine ⟨_, rfl, _, rfl, X, _, rfl, DPut.t eXc hqa (sz1m _ (by omega)), ?_⟩
        refine ⟨_, rfl, ⟨_, upd_same, ?_⟩, fun b o nb e => by rw [upd_ne nb]; exact k8 _ _ nb e⟩
        rw [part_succ hk, hu2]
        exact frX.put nc
      rintro σ Hc ⟨v11, rfl, fdX, k8⟩
      rw [part_all frL] at fdX
      refine ⟨k8 _ _ nXL eL8, ?_⟩
      obtain ⟨H9, eH9⟩ : ∃ Z, Z = upd Hc L (.dT kvs) := ⟨_, rfl⟩
      have k79 : ∀ b o, b ≠ X → H7 b = some o → H9 b = some o := fun b o nb e => by
        by_cases z : b = L
        · rw [z, eL7] at e
          cases e
          rw [eH9, z]
          exact upd_same
        · rw [eH9, upd_ne z]
          exact k8 _ _ nb (by rw [eH8, upd_ne z]; exact e)
      obtain ⟨kx, eXc, frX⟩ := fdX
      have eX9 : H9 X = some (.dT kx) := by rw [eH9, upd_ne nXL.symm]; exact eXc
      rw [← eH9]
      have hct9 : H9 ct = some (.tup ((cK (cellOf s w0.2.1 n)).map kV)) := k79 _ _ (fun z => by rw [z, hX] at hct; cases hct) (s7 _ _ hct)
      have lx := frX.len
      refine ⟨_, rfl, _, rfl, _, rfl, X, _, rfl, DPut.t eX9 hct9 (sz1m _ (by omega)), ?_⟩
      obtain ⟨Ha, eHa⟩ : ∃ Z, Z = upd H9 X (.dT (putK kx (cK (cellOf s w0.2.1 n)) (.int val))) := ⟨_, rfl⟩
      have eXa : Ha X = some (.dT (putK kx (cK (cellOf s w0.2.1 n)) (.int val))) := by rw [eHa]; exact upd_same
      have k7a : ∀ b o, b ≠ X → H7 b = some o → Ha b = some o := fun b o nb e => by
        rw [eHa, upd_ne nb]
        exact k79 _ _ nb e
      rw [← eHa]
      have eFa := k7a _ _ nXF eF7
      refine ⟨_, rfl, .inl ⟨rfl, _, SqL.of eFa⟩, _, rfl, F, fs, _, rfl, rfl, eFa, sz1m _ (by omega), ?_⟩
      refine ⟨v5, _, _, _, _, _, fs ++ [.ref X], rfl, ?_, upd_same, by rw [List.length_append, lfs]; rfl, fun j' hj' => ?_, fun b o e => ?_, ?_⟩
      · rw [upd_ne nWF]
        exact k7a _ _ nXW eW7
      · by_cases hlast : j' = i + 1
        · subst hlast
          refine ⟨X, ?_, _, by rw [upd_ne nXF.symm]; exact eXa, ?_⟩
          · rw [← lfs]
            simp
          · rw [ran_snoc hw hst, ← hval]
            exact (frX.put oks.1.1).up (by omega)
        · obtain ⟨a, h1, kv2, h2, h3⟩ := fl5 j' (by omega)
          have na : a ≠ X := ne_of_none (s6 _ _ h2) hX
          have nf : a ≠ F := fun z => by
            rw [z, eF5] at h2
            cases h2
          refine ⟨a, ?_, kv2, ?_, h3⟩
          · rw [List.getElem?_append_left (by omega)]
            exact h1
          · rw [upd_ne nf]
            exact k7a _ _ na (s57 _ _ h2)
      · rw [upd_ne (ne_of_none e hHF)]
        exact k7a _ _ (ne_of_none e hHX) (s07 _ _ e)
      · refine ts5.trans fun b xs e => ?_
        have e7 := s57 _ _ e
        rw [upd_ne (fun z => by rw [z, eF5] at e; cases e)]
        exact k7a _ _ (fun z => by rw [z, eX7] at e7; cases e7) e7
    · rintro σ H5 ⟨v5, v6, v7, v9, v10, v11, fs, rfl, eW5, eF5, lfs, fl5, s5, ts5⟩
      rw [lws] at lfs fl5
      refine ⟨_, rfl, _, rfl, sz2, fun TT hTT => ?_⟩
      have s6 := Same.new (.tup [.ref W, .ref F]) (Same.refl H5) hTT
      refine k TT W F _ ws fs (s5.trans s6) upd_same (s6 _ _ eW5) ((dW4.to ts5).to (.of s6)) (s6 _ _ eF5) lfs fun j hj => ?_
      obtain ⟨a, h1, h2⟩ := fl5 j hj
      obtain ⟨kv, e1, e2⟩ := h2
      exact ⟨a, h1, kv, s6 _ _ e1, e2.up (by omega)⟩
end
end K28
set_option maxHeartbeats 4000000
namespace K28
open PySem PySem.Spec PyProof.Rows L2 Z
structure RErTx (K : PySem.W.Frag) (mg : Str → Option Value) : Prop where
  EZ : EC K mg "BadSize" ["n"]
  EL : EC K mg "TooLong" ["many"]
  EN : EC K mg "BadName" ["name"]
  EB : EC K mg "BadNumber" ["what", "number"]
  aE : Em K mg "AtEnd"
  aS : Em K mg "AtStart"
  xZZ : PySem.W.exmOne K (.ref (He.ga K "BadSize")) (.ref (He.ga K "BadSize")) = some true
  xLL : PySem.W.exmOne K (.ref (He.ga K "TooLong")) (.ref (He.ga K "TooLong")) = some true
  xLZ : PySem.W.exmOne K (.ref (He.ga K "TooLong")) (.ref (He.ga K "BadSize")) = some false
  xNZ : PySem.W.exmOne K (.ref (He.ga K "BadName")) (.ref (He.ga K "BadSize")) = some false
  xNL : PySem.W.exmOne K (.ref (He.ga K "BadName")) (.ref (He.ga K "TooLong")) = some false
  xNN : PySem.W.exmOne K (.ref (He.ga K "BadName")) (.ref (He.ga K "BadName")) = some true
  xEE : PySem.W.exmOne K (.ref (He.ga K "AtEnd")) (.ref (He.ga K "AtEnd")) = some true
  xSE : PySem.W.exmOne K (.ref (He.ga K "AtStart")) (.ref (He.ga K "AtEnd")) = some false
  xSS : PySem.W.exmOne K (.ref (He.ga K "AtStart")) (.ref (He.ga K "AtStart")) = some true
  xBE : PySem.W.exmOne K (.ref (He.ga K "BadNumber")) (.ref (He.ga K "AtEnd")) = some false
  xBS : PySem.W.exmOne K (.ref (He.ga K "BadNumber")) (.ref (He.ga K "AtStart")) = some false
  xBB : PySem.W.exmOne K (.ref (He.ga K "BadNumber")) (.ref (He.ga K "BadNumber")) = some true
/-- what a deed gives, and how many works are done behind it -/
def dueM (w m d M : Int) : PyData × Int := if w = 0 then (if d = M then (.str "end", d) else (.none, d + 1)) else if w = 1 then (if d = 0 then (.str "start", d) else (.none, d - 1)) else (if 0 ≤ m ∧ m ≤ M then (.none, m) else (.tuple [.str "many", .int m], d))
def spDeedDue : Sp := fun vs H Q _ => ∃ w m d M : Int, vs = [.int w, .int m, .int d, .int M] ∧ ∀ t v H', Same H H' → H' t = some (.tup [v, .int (dueM w m d M).2]) → DT H' v (dueM w m d M).1 → Q (.ref t) H'
section
variable {P : Program} {w : World} {K : PySem.W.Frag} {mg : Str → Option Value} {base : Heap}
theorem sc_law_deed_due : FnScope ["_law_way", "_law_many", "_law_done", "_law_most"] ["_law_way", "_law_many", "_law_done", "_law_most"] (defScope s_law_deed_due) := ⟨rfl, rfl, rfl, by decide +kernel, rfl, by decide +kernel, by decide +kernel⟩
theorem ok_deedDue {f : Addr} {fd : FuncData} (F : FnP K "_law_deed_due" s_law_deed_due f fd) : FnOk P w K mg base CX0 1 f fd ["_law_way", "_law_many", "_law_done", "_law_most"] spDeedDue := by
  refine F.ok sc_law_deed_due (fun vs H Q E h => ?_) (fun cdv A outer s H vs Q E hr h => ?_)
  · obtain ⟨w, m, d, M, rfl, _⟩ := h
    rfl
  · obtain ⟨w, m, d, M, rfl, k⟩ := h
    refine ⟨_, PSs.nox (pss_cons (ps_if (pt_cmpR op_eq (pv 0) pe_int (nomark _)) (pss_one (ps_ret (pe_ifExp (pt_cmpR op_eq (pv 2) (pv 3) (nomark _)) (pe_tup (pa_cons pe_str (pa_cons (pv 2) pa_nil))) (pe_tup (pa_cons pe_non (pa_cons (pe_op op_add (pv 2) pe_int) pa_nil)))))) pss_nil)
      (pss_cons (ps_if (pt_cmpR op_eq (pv 0) pe_int (nomark _)) (pss_one (ps_ret (pe_ifExp (pt_cmpR op_eq (pv 2) pe_int (nomark _)) (pe_tup (pa_cons pe_str (pa_cons (pv 2) pa_nil))) (pe_tup (pa_cons pe_non (pa_cons (pe_op op_sub (pv 2) pe_int) pa_nil)))))) pss_nil)
      (pss_one (ps_ret (pe_ifExp (pt_chain op_le op_le pe_int (pv 1) (pv 3)) (pe_tup (pa_cons pe_non (pa_cons (pv 1) pa_nil))) (pe_tup (pa_cons (pe_tup (pa_cons pe_str (pa_cons (pv 1) pa_nil))) (pa_cons (pv 2) pa_nil)))))))), ?_⟩
    have back : ∀ t v n, H t = none → ((v, n) : PyData × Int) = dueM w m d M → ∀ x : V, DT (upd H t (.tup [x, .int n])) x v → Q (.ref t) (upd H t (.tup [x, .int n])) := fun t v n ht e x dx => by
      have e1 : v = (dueM w m d M).1 := congrArg Prod.fst e
      have e2 : n = (dueM w m d M).2 := congrArg Prod.snd e
      refine k t x _ (Same.new _ (Same.refl H) ht) ?_ (e1 ▸ dx)
      rw [← e2]
      exact upd_same
    have far : ¬ w = 0 → ¬ w = 1 → ¬ (0 ≤ m ∧ m ≤ M) → ∀ t1 t2, H t1 = none → (upd H t1 (.tup [.str "many", .int m])) t2 = none → Q (.ref t2) (upd (upd H t1 (.tup [.str "many", .int m])) t2 (.tup [.ref t1, .int d])) := fun h0 h1 h3 t1 t2 g1 g2 => by
      have e : ((.tuple [.str "many", .int m], d) : PyData × Int) = dueM w m d M := by unfold dueM; rw [if_neg h0, if_neg h1, if_neg h3]
      have s1 := Same.new (.tup [.str "many", .int m]) (Same.refl H) g1
      have s2 := Same.new (.tup [.ref t1, .int d]) (Same.refl _) g2
      refine k t2 (.ref t1) _ (s1.trans s2) (by rw [← e]; exact upd_same) (by rw [← e]; exact .tup (s2 _ _ upd_same) (.cons (.str _) (.cons (.int _) .nil)))
    refine ⟨_, rfl, rfl, _, rfl, ite2 (fun h => ?_) (fun h => ?_)⟩
    · have h0 : w = 0 := by simpa using h
      refine ⟨_, rfl, _, rfl, rfl, _, rfl, ite2 (fun h2 => ?_) (fun h2 => ?_)⟩
      · have h3 : d = M := by simpa using h2
        refine ⟨_, rfl, sz2, fun t ht => back t (.str "end") d ht (by unfold dueM; rw [if_pos h0, if_pos h3]) _ (.str _)⟩
      · have h3 : ¬ d = M := by simpa using h2
        refine ⟨_, rfl, _, _, rfl, rfl, sz2, fun t ht => back t .none (d + 1) ht (by unfold dueM; rw [if_pos h0, if_neg h3]) _ .non⟩
    · have h0 : ¬ w = 0 := by simpa using h
      refine ⟨_, rfl, rfl, _, rfl, ite2 (fun h => ?_) (fun h => ?_)⟩
      · have h1 : w = 1 := by simpa using h
        refine ⟨_, rfl, rfl, _, rfl, ite2 (fun h2 => ?_) (fun h2 => ?_)⟩
        · have h3 : d = 0 := by simpa using h2
          refine ⟨_, rfl, sz2, fun t ht => back t (.str "start") d ht (by unfold dueM; rw [if_neg h0, if_pos h1, if_pos h3]) _ (.str _)⟩
        · have h3 : ¬ d = 0 := by simpa using h2
          refine ⟨_, rfl, _, _, rfl, rfl, sz2, fun t ht => back t .none (d - 1) ht (by unfold dueM; rw [if_neg h0, if_pos h1, if_neg h3]) _ .non⟩
      · have h1 : ¬ w = 1 := by simpa using h
        refine ⟨_, rfl, _, _, rfl, rfl, _, rfl, ite2 (fun h2 => ?_) (fun h2 => ?_)⟩
        · have h3 : 0 ≤ m := of_decide_eq_true h2
          refine ⟨_, rfl, _, _, rfl, rfl, _, rfl, ite2 (fun h4 => ?_) (fun h4 => ?_)⟩
          · have h5 : m ≤ M := of_decide_eq_true h4
            refine ⟨_, rfl, sz2, fun t ht => back t .none m ht (by unfold dueM; rw [if_neg h0, if_neg h1, if_pos ⟨h3, h5⟩]) _ .non⟩
          · have h5 : ¬ m ≤ M := fun z => h4 (decide_eq_true z)
            exact ⟨_, rfl, sz2, fun t1 g1 => ⟨_, rfl, sz2, fun t2 g2 => far h0 h1 (fun z => h5 z.2) t1 t2 g1 g2⟩⟩
        · have h3 : ¬ 0 ≤ m := fun z => h2 (decide_eq_true z)
          exact ⟨_, rfl, if_no rfl ⟨_, rfl, sz2, fun t1 g1 => ⟨_, rfl, sz2, fun t2 g2 => far h0 h1 (fun z => h3 z.1) t1 t2 g1 g2⟩⟩⟩
end
end K28
set_option maxHeartbeats 4000000
namespace K28
open PySem PySem.Spec PyProof.Rows L2 Z
def spDeedT (K : PySem.W.Frag) : Sp := fun vs H Q _ => ∃ (P : Addr → Prop) (p : Addr) (w m : Int) (ls : List LpM) (n : Int) (f0 : Sto) (k N : Nat), vs = [.ref p, .int w, .int m] ∧ 0 ≤ w ∧ w ≤ 2 ∧ SteAt P K H p ls n f0 k N ∧ LsOk ls ∧ (works ls n).length ≤ 1000 ∧ N < 300000 ∧ (∀ e, H e = none → P e) ∧
  ∀ v H', SteAt P K H' p ls n f0 (dueM w m (k : Int) ((works ls n).length : Int)).2.toNat (N + 4000) → Fr P H H' → DT H' v (dueM w m (k : Int) ((works ls n).length : Int)).1 → Q v H'
theorem SteAt.ins {P : Addr → Prop} {K : PySem.W.Frag} {H : Hp} {p : Addr} {ls : List LpM} {n : Int} {f0 : Sto} {k N : Nat} (h : SteAt P K H p ls n f0 k N) : k ≤ (works ls n).length ∧ ∃ dx v wk a ov, H p = some (.ins (CSr K) dx (srf v n wk a ov)) := by
  obtain ⟨dx, v, wk, a, ov, ws, os, h1, S⟩ := h
  exact ⟨S.least, dx, v, wk, a, ov, h1⟩
section
variable {P : Program} {w : World} {K : PySem.W.Frag} {mg : Str → Option Value} {base : Heap}
theorem sc_law_deed_told : FnScope ["_law_stepper", "_law_way", "_law_many", "_law_told", "e"] ["_law_stepper", "_law_way", "_law_many"] (defScope s_law_deed_told) := ⟨rfl, rfl, rfl, by decide +kernel, rfl, by decide +kernel, by decide +kernel⟩
theorem ok_deedT {f : Addr} {fd fd1 fu1 fg1 : FuncData} (F : FnP K "_law_deed_told" s_law_deed_told f fd) (T : LwTx K mg) (G : SrTx K) (R : RErTx K mg)
    (Fd : FnOk P w K mg base (L2.CX P w) 4 (He.ma K (CSr K) "do_work") fd1 ["self"] (spDo K)) (hbd : Binds K fd1 ["self"] []) (cd : Meth K (CSr K) "do_work" (He.ma K (CSr K) "do_work"))
    (Fu : FnOk P w K mg base (L2.CX P w) 1 (He.ma K (CSr K) "undo_work") fu1 ["self"] (spUndo K)) (hbu : Binds K fu1 ["self"] []) (cu : Meth K (CSr K) "undo_work" (He.ma K (CSr K) "undo_work"))
    (Fg : FnOk P w K mg base (L2.CX P w) 5 (He.ma K (CSr K) "go_to") fg1 ["self", "many"] (spGo K)) (hbg : Binds K fg1 ["self", "many"] []) (cg : Meth K (CSr K) "go_to" (He.ma K (CSr K) "go_to")) :
    FnOk P w K mg base CX0 6 f fd ["_law_stepper", "_law_way", "_law_many"] (spDeedT K) := by
  refine F.ok sc_law_deed_told (fun vs H Q E h => ?_) (fun cdv A outer s H vs Q E hr h => ?_)
  · obtain ⟨PP, p, w, m, ls, n, f0, k, N, rfl, _⟩ := h
    rfl
  · obtain ⟨PP, p, w, m, ls, n, f0, k, N, rfl, w0, w2, st, ok, lW, hN, hP, kk⟩ := h
    refine ⟨_, PSs.nox (pss_cons (ps_set (i := 3) sc_law_deed_told.nd rfl (Or.inl rfl) pe_non)
      (pss_cons (ps_try_mix rfl rfl sc_law_deed_told.nd takes0 (fun W pn xe tk _ => (pss_one (ps_if (pt_cmpR op_eq (pv 1) pe_int (nomark _)) (pss_one (ps_set (i := 3) sc_law_deed_told.nd rfl (Or.inl rfl) (pe_methX0 (K := K) rfl (fun σ => passAt tk σ) (pv 0) G.cl cd Fd (hr.mono (by decide)) hbd))) (pss_one (ps_if (pt_cmpR op_eq (pv 1) pe_int (nomark _)) (pss_one (ps_set (i := 3) sc_law_deed_told.nd rfl (Or.inl rfl) (pe_methX0 (K := K) rfl (fun σ => passAt tk σ) (pv 0) G.cl cu Fu (hr.mono (by decide)) hbu))) (pss_one (ps_set (i := 3) sc_law_deed_told.nd rfl (Or.inl rfl) (pe_methX (K := K) rfl (fun σ => passAt tk σ) (pv 0) G.cl cg Fg (hr.mono (by decide)) hbg (pa_cons (pv 2) pa_nil))))))))) (Mix.cons0 ⟨rfl, by decide, .inl R.aE.gC⟩ (fun a oe cls d pn hz hf => (pss_one (ps_set (i := 3) sc_law_deed_told.nd rfl (Or.inl rfl) pe_str))) (Mix.cons0 ⟨rfl, by decide, .inl R.aS.gC⟩ (fun a oe cls d pn hz hf => (pss_one (ps_set (i := 3) sc_law_deed_told.nd rfl (Or.inl rfl) pe_str))) (Mix.cons (i := 4) rfl rfl ⟨rfl, by decide, .inl R.EB.gC⟩ (fun a oe cls d pn hz hf => (pss_one (ps_set (i := 3) sc_law_deed_told.nd rfl (Or.inl rfl) (pe_tup (pa_cons (pe_xf R.EB.ex.xf (R.EB.na _ (by simp)) hz hf (pv 4)) (pa_cons (pe_xf R.EB.ex.xf (R.EB.na _ (by simp)) hz hf (pv 4)) pa_nil)))))) Mix.nil))))
      (pss_one (ps_ret (pv 3))))), ?_⟩
    refine normG (i := 3) (v := .non) (σ := [some (.ref p), some (.int w), some (.int m), none, none]) (σ' := [some (.ref p), some (.int w), some (.int m), some .non, none]) rfl ?_
    dsimp only
    obtain ⟨le, dx, v, wk, a, ov, hp⟩ := st.ins
    have no : ∀ {x : Str}, ¬ x = "program" → ¬ x = "n" → ¬ x = "works" → ¬ x = "cells" → ¬ x = "overwritten" → (srf v n wk a ov).lookup x = none := srf_no
    refine mid (fun σ' H' => ∃ u, σ' = [some (.ref p), some (.int w), some (.int m), some u, none] ∧ Q u H') (fun key => ?_) ?_
    · refine ⟨_, rfl, rfl, _, rfl, ite2 (fun h => ?_) (fun h => ?_)⟩
      · have h0 : w = 0 := by simpa using h
        subst h0
        refine ⟨_, rfl, p, dx, _, rfl, hp, no (by decide +kernel) (by decide +kernel) (by decide +kernel) (by decide +kernel) (by decide +kernel), PP, p, ls, n, f0, k, N, rfl, st, ok, lW, by omega, hP, fun he H2 s2 => ?_, fun hlt H2 st2 fr2 => ?_⟩
        · refine ⟨true, R.xEE, fun _ a ha => ?_, fun q => Bool.noConfusion q⟩
          have e : dueM 0 m (k : Int) ((works ls n).length : Int) = (.str "end", (k : Int)) := by unfold dueM; rw [if_pos rfl, if_pos (by omega)]
          refine key _ _ ⟨_, rfl, kk _ _ ?_ (.same s2) ?_⟩
          · rw [e]
            exact (st.same s2).up (by omega)
          · rw [e]
            exact .str _
        · have e : dueM 0 m (k : Int) ((works ls n).length : Int) = (.none, (k : Int) + 1) := by unfold dueM; rw [if_pos rfl, if_neg (by omega)]
          refine key _ _ ⟨_, rfl, kk _ _ ?_ fr2 ?_⟩
          · rw [e]
            exact st2.up (by omega)
          · rw [e]
            exact .non
      · have h0 : ¬ w = 0 := by simpa using h
        refine ⟨_, rfl, rfl, _, rfl, ite2 (fun h => ?_) (fun h => ?_)⟩
        · have h1 : w = 1 := by simpa using h
          subst h1
          refine ⟨_, rfl, p, dx, _, rfl, hp, no (by decide +kernel) (by decide +kernel) (by decide +kernel) (by decide +kernel) (by decide +kernel), PP, p, ls, n, f0, k, N, rfl, st, ok, by omega, fun he H2 s2 => ?_, fun hlt H2 st2 fr2 => ?_⟩
          · refine ⟨false, R.xSE, fun q => Bool.noConfusion q, fun _ => ⟨true, R.xSS, fun _ a ha => ?_, fun q => Bool.noConfusion q⟩⟩
            have e : dueM 1 m (k : Int) ((works ls n).length : Int) = (.str "start", (k : Int)) := by unfold dueM; rw [if_neg (by omega), if_pos rfl, if_pos (by omega)]
            refine key _ _ ⟨_, rfl, kk _ _ ?_ (.same s2) ?_⟩
            · rw [e]
              exact (st.same s2).up (by omega)
            · rw [e]
              exact .str _
          · have e : dueM 1 m (k : Int) ((works ls n).length : Int) = (.none, (k : Int) - 1) := by unfold dueM; rw [if_neg (by omega), if_pos rfl, if_neg (by omega)]
            refine key _ _ ⟨_, rfl, kk _ _ ?_ fr2 ?_⟩
            · rw [e]
              show SteAt PP K H2 p ls n f0 ((k : Int) - 1).toNat (N + 4000)
              have : ((k : Int) - 1).toNat = k - 1 := by omega
              rw [this]
              exact st2.up (by omega)
            · rw [e]
              exact .non
        · have h1 : ¬ w = 1 := by simpa using h
          refine ⟨_, rfl, p, dx, _, rfl, hp, no (by decide +kernel) (by decide +kernel) (by decide +kernel) (by decide +kernel) (by decide +kernel), _, rfl, PP, p, ls, n, f0, k, N, m, rfl, st, ok, lW, hN, hP, fun hm d H2 s2 hd => ?_, fun hm H2 st2 fr2 => ?_⟩
          · refine ⟨false, R.xBE, fun q => Bool.noConfusion q, fun _ => ⟨false, R.xBS, fun q => Bool.noConfusion q, fun _ => ⟨true, R.xBB, fun _ a ha => ?_, fun q => Bool.noConfusion q⟩⟩⟩
            have e : dueM w m (k : Int) ((works ls n).length : Int) = (.tuple [.str "many", .int m], (k : Int)) := by unfold dueM; rw [if_neg h0, if_neg h1, if_neg hm]
            refine ⟨_, rfl, rfl, rfl, d, _, _, rfl, (show H2 d = some (.xd [("number", .int m), ("what", .str "many")]) from hd), look2, _, rfl, rfl, rfl, d, _, _, rfl, (show H2 d = some (.xd [("number", .int m), ("what", .str "many")]) from hd), look1, sz2, fun t ht => ?_⟩
            have s3 := Same.new (.tup [.str "many", .int m]) s2 ht
            refine key _ _ ⟨_, rfl, kk _ _ ?_ (.same s3) ?_⟩
            · rw [e]
              exact (st.same s3).up (by omega)
            · rw [e]
              exact .tup upd_same (.cons (.str _) (.cons (.int _) .nil))
          · have e : dueM w m (k : Int) ((works ls n).length : Int) = (.none, m) := by unfold dueM; rw [if_neg h0, if_neg h1, if_pos hm]
            refine key _ _ ⟨_, rfl, kk _ _ ?_ fr2 ?_⟩
            · rw [e]
              exact st2
            · rw [e]
              exact .non
    · rintro σ H3 ⟨u, rfl, q⟩
      exact ⟨_, rfl, q⟩
end
end K28
set_option maxHeartbeats 4000000
namespace K28
open PySem PySem.Spec PyProof.Rows L2 Z
/-- the law's works and what they leave, one by one -/
structure Found (H : Hp) (W F : Addr) (ws fs : List V) (ls : List LpM) (n : Int) (f0 : Sto) : Prop where
  hw : H W = some (.lst ws)
  dw : DTs H ws ((works ls n).map wD)
  hf : H F = some (.lst fs)
  len : fs.length = (works ls n).length + 1
  each : ∀ j, j ≤ (works ls n).length → ∃ a, fs[j]? = some (.ref a) ∧ FlatD H a (ran ls n ((works ls n).take j) f0) 2000
theorem Found.same {H H' : Hp} {W F : Addr} {ws fs : List V} {ls : List LpM} {n : Int} {f0 : Sto} (h : Found H W F ws fs ls n f0) (s : Same H H') : Found H' W F ws fs ls n f0 :=
  ⟨s _ _ h.hw, h.dw.to (.of s), s _ _ h.hf, h.len, fun j hj => by
    obtain ⟨a, e, q⟩ := h.each j hj
    exact ⟨a, e, q.to fun o => s a o⟩⟩
def spIsAt (K : PySem.W.Frag) : Sp := fun vs H Q _ => ∃ (P : Addr → Prop) (p W F : Addr) (ws fs : List V) (ls : List LpM) (n : Int) (f0 : Sto) (k N : Nat), vs = [.ref p, .ref W, .ref F, .int (k : Int)] ∧ SteAt P K H p ls n f0 k N ∧ Found H W F ws fs ls n f0 ∧ (works ls n).length ≤ 1000 ∧
  ∀ H', Same H H' → Q (.bl true) H'
theorem SteAt.lock {P : Addr → Prop} {K : PySem.W.Frag} {H : Hp} {p L : Addr} {ls : List LpM} {n : Int} {f0 : Sto} {k N : Nat} {kvs : List (List Key × V)} {od : Obj} (h : SteAt P K H p ls n f0 k N) (hL : H L = some (.dT kvs)) : SteAt P K (upd H L (.frz od (.dT kvs))) p ls n f0 k N := by
  obtain ⟨dx, v, wk, a, ov, ws, os, h1, S⟩ := h
  have m : MS H (upd H L (.frz od (.dT kvs))) := .updT hL
  have ne : ∀ {b o}, H b = some o → (∀ q, o ≠ .dT q) → b ≠ L := fun e q z => by
    rw [z, hL] at e
    exact q kvs (Option.some.inj e).symm
  have ls' : ∀ {b xs}, H b = some (.lst xs) → (upd H L (.frz od (.dT kvs))) b = some (.lst xs) := fun e => by
    rw [upd_ne (ne e fun _ z => by cases z)]
    exact e
  refine ⟨dx, v, wk, a, ov, ws, os, m _ _ h1 rfl, S.prog.ms m, ls' S.hwk, S.own, S.apart, S.dworks.to m.t, S.nest.dk fun b q e => ?_, ls' S.over, S.ownO, S.least, S.dover.to m.t⟩
  rw [upd_ne (ne e fun _ z => by cases z)]
  exact e
def nwD (ls : List LpM) (n : Int) (k : Nat) : PyData := match (works ls n)[k]? with
  | some w => wD w
  | none => .none
def spNW2 (K : PySem.W.Frag) : Sp := fun vs H Q _ => ∃ (P : Addr → Prop) (p : Addr) (ls : List LpM) (n : Int) (f0 : Sto) (k N : Nat), vs = [.ref p] ∧ SteAt P K H p ls n f0 k N ∧ ∀ v, DT H v (nwD ls n k) → Q v H
theorem nw_imp {K : PySem.W.Frag} {vs : List V} {H : Hp} {Q : VK} {E : XK} (h : spNW2 K vs H Q E) : spNW K vs H Q E := by
  obtain ⟨P, p, ls, n, f0, k, N, rfl, st, q⟩ := h
  refine ⟨P, p, ls, n, f0, k, N, rfl, st, fun e => q _ ?_, fun w v hw dw => q _ ?_⟩
  · unfold nwD
    rw [List.getElem?_eq_none (by omega)]
    exact .non
  · unfold nwD
    rw [hw]
    exact dw
theorem fn_imp {P : Program} {w : World} {K : PySem.W.Frag} {mg : Str → Option Value} {base : Heap} {CX : CXT} {k : Nat} {f : Addr} {fd : FuncData} {ps : List Str} {sp sp' : Sp} (F : FnOk P w K mg base CX k f fd ps sp) (h : ∀ {vs H Q E}, sp' vs H Q E → sp vs H Q E) : FnOk P w K mg base CX k f fd ps sp' :=
  ⟨fun vs H Q E z => F.len vs H Q E (h z), fun A outer s H args us vs Q E hr e0 hb r z => F.run A outer s H args us vs Q E hr e0 hb r (h z)⟩
theorem lay_nw (ls : List LpM) (n : Int) (k : Nat) : SeqAt.shaped (nwD ls n k) = true := by
  unfold nwD
  split
  · rfl
  · rfl
theorem Flat.same {H H' : Hp} {a : Addr} {f : Sto} {M : Nat} (h : Flat H a f M) (s : Same H H') : Flat H' a f M := by
  obtain ⟨kvs, h1, h2⟩ := h
  exact ⟨kvs, rd_same h1 s, h2⟩
theorem Flat.lock {H : Hp} {L a : Addr} {f : Sto} {M : Nat} {u : List (List Key × V)} {od : Obj} (h : Flat H a f M) (hL : H L = some (.dT u)) : Flat (upd H L (.frz od (.dT u))) a f M := by
  obtain ⟨kvs, h1, h2⟩ := h
  exact ⟨kvs, rd_lock hL trivial h1, h2⟩
section
variable {P : Program} {w : World} {K : PySem.W.Frag} {mg : Str → Option Value} {base : Heap}
theorem sc_law_is_at : FnScope ["_law_stepper", "_law_works_here", "_law_found", "_law_done", "_law_cell", "_law_due"] ["_law_stepper", "_law_works_here", "_law_found", "_law_done"] (defScope s_law_is_at) := ⟨rfl, rfl, rfl, by decide +kernel, rfl, by decide +kernel, by decide +kernel⟩
theorem ok_isAt {f : Addr} {fd fm1 fn1 fv1 : FuncData} (F : FnP K "_law_is_at" s_law_is_at f fd) (T : LwTx K mg) (G : SrTx K)
    (Fm : FnOk P w K mg base CX0 1 (He.ma K (CSr K) "many_done") fm1 ["self"] (spMD K)) (hbm : Binds K fm1 ["self"] []) (cm : Meth K (CSr K) "many_done" (He.ma K (CSr K) "many_done"))
    (Fn : FnOk P w K mg base CX0 1 (He.ma K (CSr K) "next_work") fn1 ["self"] (spNW K)) (hbn : Binds K fn1 ["self"] []) (cn : Meth K (CSr K) "next_work" (He.ma K (CSr K) "next_work"))
    (Fv : FnOk P w K mg base (L2.CX P w) 5 (He.ma K (CSr K) "value_of") fv1 ["self", "array", "cell"] (spSV K)) (hbv : Binds K fv1 ["self", "array", "cell"] []) (cv : Meth K (CSr K) "value_of" (He.ma K (CSr K) "value_of"))
    (dInput : Dn P w K mg base 1 "_law_input" ["_law_array", "_law_cell"] spFirst) : FnOk P w K mg base CX0 6 f fd ["_law_stepper", "_law_works_here", "_law_found", "_law_done"] (spIsAt K) := by
  refine F.ok sc_law_is_at (fun vs H Q E h => ?_) (fun cdv A outer s H vs Q E hr h => ?_)
  · obtain ⟨PP, p, W, F, ws, fs, ls, n, f0, k, N, rfl, _⟩ := h
    rfl
  · obtain ⟨PP, p, W, F, ws, fs, ls, n, f0, k, N, rfl, st, fo, lW, kk⟩ := h
    have hu := hu_of hr
    have Fn := fn_imp Fn (sp' := spNW2 K) nw_imp
    refine ⟨_, PSs.nox (pss_cons (ps_if (PW.pt (pw_or (pt_cmpR op_ne (pe_meth0 (pv 0) G.cl cm Fm (hr.mono (by decide)) hbm .nil pass0) (pv 3) (nomark _)) (pw_or1 (pt_cmpR (op_neD hr.units) (pe_meth0 (pv 0) G.cl cn Fn (hr.mono (by decide)) hbn .nil pass0) (pe_ix ix_list (pe_op op_cat (pv 1) (pe_lst (pa_cons pe_non pa_nil))) (pv 3) (fun _ _ => rfl)) (nomark _))))) (pss_one (ps_ret pe_bl)) pss_nil)
      (pss_cons (ps_lock (ps_for PassesOwn.never rfl (pi_keys (pe_ix ix_list (pv 2) (pe_un un_neg pe_int) (fun _ _ => rfl))) (pg_name (i := 4) sc_law_is_at.nd rfl (.inl rfl)) (pss_cons (ps_set (i := 5) sc_law_is_at.nd rfl (Or.inl rfl) (pe_ifExp (pt_cmp (pc_din hu (pv 4) (pe_ix ix_list (pv 2) (pv 3) (fun _ _ => rfl)))) (pe_dget hu (pe_ix ix_list (pv 2) (pv 3) (fun _ _ => rfl)) (pv 4) (fun _ _ => rfl)) (pe_dn dInput hr (pa_cons (pe_ix (ix_tupK (K := K) rfl) (pv 4) pe_int (fun _ _ => rfl)) (pa_cons (pe_ix (ix_tupK (K := K) rfl) (pv 4) pe_int (fun _ _ => rfl)) pa_nil)))))
      (pss_one (ps_if (pt_cmpR op_ne (pe_methX (K := K) rfl at_E0 (pv 0) G.cl cv Fv (hr.mono (by decide)) hbv (pa_cons (pe_ix (ix_tupK (K := K) rfl) (pv 4) pe_int (fun _ _ => rfl)) (pa_cons (pe_ix (ix_tupK (K := K) rfl) (pv 4) pe_int (fun _ _ => rfl)) pa_nil))) (pv 5) (nomark _)) (pss_one (ps_ret pe_bl)) pss_nil)))))
      (pss_one (ps_ret pe_bl)))), ?_⟩
    obtain ⟨le, dx, v, wk, a, ov, hp⟩ := st.ins
    have no : ∀ {x : Str}, ¬ x = "program" → ¬ x = "n" → ¬ x = "works" → ¬ x = "cells" → ¬ x = "overwritten" → (srf v n wk a ov).lookup x = none := srf_no
    have lws : ws.length = (works ls n).length := by rw [fo.dw.len, List.length_map]
    refine ⟨_, rfl, p, dx, _, rfl, hp, no (by decide +kernel) (by decide +kernel) (by decide +kernel) (by decide +kernel) (by decide +kernel), PP, p, ls, n, f0, k, N, rfl, st, ?_⟩
    refine ⟨_, rfl, rfl, _, rfl, if_no (by simp) ?_⟩
    refine ⟨_, rfl, p, dx, _, rfl, hp, no (by decide +kernel) (by decide +kernel) (by decide +kernel) (by decide +kernel) (by decide +kernel), PP, p, ls, n, f0, k, N, rfl, st, fun u du => ?_⟩
    obtain ⟨q, hq, dq⟩ : ∃ q, (ws ++ [V.non])[k]? = some q ∧ DT H q (nwD ls n k) := by
      by_cases z : k < (works ls n).length
      · obtain ⟨w0, hw⟩ : ∃ w0, (works ls n)[k]? = some w0 := ⟨_, List.getElem?_eq_getElem z⟩
        obtain ⟨x, hx, dx⟩ := DTs.get k _ fo.dw (by rw [List.getElem?_map, hw]; rfl)
        have e : nwD ls n k = wD w0 := by
          unfold nwD
          rw [hw]
        rw [e]
        exact ⟨x, by rw [List.getElem?_append_left (by omega)]; exact hx, dx⟩
      · have e : nwD ls n k = .none := by
          unfold nwD
          rw [List.getElem?_eq_none (by omega)]
        rw [e]
        refine ⟨.non, ?_, .non⟩
        rw [List.getElem?_append_right (by omega), show k - ws.length = 0 by omega]
        rfl
    refine ⟨_, rfl, sz1, fun t1 ht1 => ?_⟩
    have s1 := Same.new (.lst [.non]) (Same.refl H) ht1
    refine ⟨W, t1, ws, _, rfl, rfl, s1 _ _ fo.hw, upd_same, Nat.le_of_lt (sz1m _ (by show ws.length + 1 < 1000000; omega)), fun t2 ht2 => ?_⟩
    have s2 := Same.new (.lst (ws ++ [.non])) (Same.refl _) ht2
    have s02 := s1.trans s2
    refine ⟨_, rfl, t2, _, _, _, rfl, rfl, SqL.of upd_same, atI_nat hq, ?_⟩
    obtain ⟨H2, eH2⟩ : ∃ X, X = upd (upd H t1 (.lst [.non])) t2 (.lst (ws ++ [.non])) := ⟨_, rfl⟩
    rw [← eH2] at s02
    rw [← eH2]
    refine ⟨_, _, DT.dp _ (du.to (.of s02)), DT.dp _ (dq.to (.of s02)), lay_nw _ _ _, lay_nw _ _ _, ?_⟩
    rw [SeqAt.eqv_refl _ (SeqAt.canLay_of_shaped (lay_nw ls n k))]
    refine ⟨_, rfl, if_no rfl ?_⟩
    clear eH2
    obtain ⟨L, eL0, ⟨kvs, hL, fr⟩⟩ := fo.each _ (Nat.le_refl _)
    have st2 := st.same s02
    have hL2 := s02 _ _ hL
    obtain ⟨A0, eA0, FA⟩ := fo.each k (by omega)
    obtain ⟨cs, ecs, nms⟩ := fr.keys
    refine ⟨L, .dT kvs, hL2, trivial, fun od => ?_⟩
    have st3 := st2.lock (od := od) hL2
    have nFL : F ≠ L := fun z => by
      have e := fo.hf
      rw [z, hL] at e
      cases e
    have eF3 : (upd H2 L (.frz od (.dT kvs))) F = some (.lst fs) := by rw [upd_ne nFL]; exact s02 _ _ fo.hf
    have eL3 : (upd H2 L (.frz od (.dT kvs))) L = some (.frz od (.dT kvs)) := upd_same
    obtain ⟨kv2, rd2, fr2⟩ := (FA.flat.same s02).lock (od := od) hL2
    obtain ⟨H3, eH3⟩ : ∃ X, X = upd H2 L (.frz od (.dT kvs)) := ⟨_, rfl⟩
    rw [← eH3] at st3 eF3 eL3 rd2
    rw [← eH3]
    refine ⟨_, rfl, _, rfl, F, _, _, _, rfl, rfl, SqL.of eF3, atI_lastN fo.len eL0, L, od, rfl, .inr ⟨kvs, eL3, ?_⟩⟩
    refine for_it (walk_keysT (d := L) (o := od) (kvs := kvs)) (fun j σ H' => ∃ v4 v5 : Option V, σ = [some (.ref p), some (.ref W), some (.ref F), some (.int (k : Int)), v4, v5] ∧ Same H3 H') ⟨_, _, rfl, Same.refl H3⟩ (fun j σ H' _ z => by
      obtain ⟨_, _, _, sc⟩ := z
      exact sc _ _ eL3) ?_ ?_
    · rintro j x σ Hc H' lt ⟨v4, v5, rfl, sc⟩ ⟨rfl, ky, v, qa, hk, rfl, hqa⟩
      have hin : ky ∈ kvs.map (·.1) := List.mem_map.mpr ⟨_, List.mem_of_getElem? hk, rfl⟩
      rw [ecs] at hin
      obtain ⟨c, hc, rfl⟩ := List.mem_map.mp hin
      have nc := nms c hc
      have hqa' : H' qa = some (.tup [.str c.1, .int c.2]) := hqa
      refine normG (σ' := [some (.ref p), some (.ref W), some (.ref F), some (.int (k : Int)), some (.ref qa), v5]) rfl ?_
      have gd := DGet.r (k := cK c) (rd_same rd2 sc) hqa
      rw [fr2.look] at gd
      refine ⟨_, rfl, _, rfl, _, rfl, F, _, _, _, rfl, rfl, SqL.of (sc _ _ eF3), atI_nat eA0, A0, _, rfl, gd, ?_⟩
      cases ef : ran ls n ((works ls n).take k) f0 c.1 c.2 with
      | none =>
        have hk : held (ran ls n ((works ls n).take k) f0) c.1 c.2 = first c.1 c.2 := by unfold held; rw [ef]
        refine ⟨_, rfl, if_no rfl ⟨_, rfl, qa, _, _, _, rfl, rfl, SqT.of hqa', at0, _, rfl, qa, _, _, _, rfl, rfl, SqT.of hqa', at1, _, _, rfl, lets_of nc, fun H4 s4 => ?_⟩⟩
        have s34 := sc.trans s4
        refine normG (σ' := [some (.ref p), some (.ref W), some (.ref F), some (.int (k : Int)), some (.ref qa), some (.int (first c.1 c.2))]) rfl ?_
        obtain ⟨_, dx4, v4, wk4, a4, ov4, hp4⟩ := (st3.same s34).ins
        have no4 : ∀ {x : Str}, ¬ x = "program" → ¬ x = "n" → ¬ x = "works" → ¬ x = "cells" → ¬ x = "overwritten" → (srf v4 n wk4 a4 ov4).lookup x = none := srf_no
        refine ⟨_, rfl, p, dx4, _, rfl, hp4, no4 (by decide +kernel) (by decide +kernel) (by decide +kernel) (by decide +kernel) (by decide +kernel), _, rfl, qa, _, _, _, rfl, rfl, SqT.of (s4 _ _ hqa'), at0, _, rfl, qa, _, _, _, rfl, rfl, SqT.of (s4 _ _ hqa'), at1, PP, p, ls, n, f0, k, N, c.1, c.2, rfl, st3.same s34, isName_len nc, fun z => (by rw [nc] at z; cases z), fun _ H5 s5 => ?_⟩
        rw [hk]
        exact ⟨_, rfl, rfl, _, rfl, if_no (by simp) ⟨_, _, rfl, s34.trans s5⟩⟩
      | some u =>
        have hk : held (ran ls n ((works ls n).take k) f0) c.1 c.2 = u := by unfold held; rw [ef]
        rw [ef] at gd
        refine ⟨_, rfl, iteT ⟨_, rfl, _, rfl, F, _, _, _, rfl, rfl, SqL.of (sc _ _ eF3), atI_nat eA0, _, rfl, A0, _, rfl, gd, ?_⟩⟩
        refine normG (σ' := [some (.ref p), some (.ref W), some (.ref F), some (.int (k : Int)), some (.ref qa), some (.int u)]) rfl ?_
        obtain ⟨_, dx4, v4, wk4, a4, ov4, hp4⟩ := (st3.same sc).ins
        have no4 : ∀ {x : Str}, ¬ x = "program" → ¬ x = "n" → ¬ x = "works" → ¬ x = "cells" → ¬ x = "overwritten" → (srf v4 n wk4 a4 ov4).lookup x = none := srf_no
        refine ⟨_, rfl, p, dx4, _, rfl, hp4, no4 (by decide +kernel) (by decide +kernel) (by decide +kernel) (by decide +kernel) (by decide +kernel), _, rfl, qa, _, _, _, rfl, rfl, SqT.of hqa', at0, _, rfl, qa, _, _, _, rfl, rfl, SqT.of hqa', at1, PP, p, ls, n, f0, k, N, c.1, c.2, rfl, st3.same sc, isName_len nc, fun z => (by rw [nc] at z; cases z), fun _ H5 s5 => ?_⟩
        rw [hk]
        exact ⟨_, rfl, rfl, _, rfl, if_no (by simp) ⟨_, _, rfl, sc.trans s5⟩⟩
    · rintro σ Hc ⟨v4, v5, rfl, sc⟩
      refine ⟨sc _ _ eL3, ?_⟩
      have sF : Same H (upd Hc L (.dT kvs)) := fun b o e => by
        by_cases z : b = L
        · subst z
          rw [hL] at e
          cases e
          exact upd_same
        · rw [upd_ne z]
          exact sc _ _ (by rw [eH3, upd_ne z]; exact s02 _ _ e)
      exact kk _ sF
end
end K28
set_option maxHeartbeats 4000000
namespace K28
open PySem PySem.Spec PyProof.Rows L2 Z
/-- data that may be laid, so deep at most -/
def Lay (k : Nat) (d : PyData) : Prop := d.canLay0 = true ∧ d.depth ≤ k
theorem lay_all {k : Nat} : ∀ {ds : List PyData}, (∀ d ∈ ds, Lay k d) → PyData.canLayAll0 ds = true ∧ PyData.depthAll ds ≤ k
  | [], _ => ⟨rfl, Nat.zero_le _⟩
  | d :: ds, h => by
    have h1 := h d List.mem_cons_self
    have h2 := lay_all fun e he => h e (List.mem_cons_of_mem _ he)
    exact ⟨by simp only [PyData.canLayAll0, h1.1, h2.1, Bool.and_self], by
      have a := h1.2
      have b := h2.2
      simp only [PyData.depthAll]
      omega⟩
theorem Lay.tup {k : Nat} {ds : List PyData} (h : ∀ d ∈ ds, Lay k d) : Lay (k + 1) (.tuple ds) := by
  have := lay_all h
  exact ⟨by simpa [PyData.canLay0] using this.1, by
    have a := this.2
    simp only [PyData.depth]
    omega⟩
theorem Lay.mono {k l : Nat} {d : PyData} (h : Lay k d) (e : k ≤ l) : Lay l d := ⟨h.1, Nat.le_trans h.2 e⟩
theorem Lay.shaped {k : Nat} {d : PyData} (h : Lay k d) (e : k ≤ 64) : SeqAt.shaped d = true := by
  unfold SeqAt.shaped
  rw [h.1, decide_eq_true (Nat.le_trans h.2 e)]
  rfl
theorem lay_int (i : Int) : Lay 0 (.int i) := ⟨rfl, by simp [PyData.depth]⟩
theorem lay_str {x : Str} (h : PyData.strOk x = true) : Lay 0 (.str x) := ⟨by simpa [PyData.canLay0] using h, by simp [PyData.depth]⟩
theorem PenC.fr {Pr : Addr → Prop} {H H' : Hp} {p pc : Addr} {t : Nat} (h : PenC H p pc t) (f : Fr Pr H H') (n1 : ¬ Pr p) (n2 : ¬ Pr pc) : PenC H' p pc t := by
  obtain ⟨ns, a, l, h1, h2, h3⟩ := h
  exact ⟨ns, a, l, f.keep _ _ h1 n1, f.keep _ _ h2 n2, h3⟩
theorem Found.keepC {H H' : Hp} {W F : Addr} {ws fs : List V} {ls : List LpM} {n : Int} {f0 : Sto} {q pc : Addr} {t : Nat} (h : Found H W F ws fs ls n f0) (hp : PenC H q pc t) (kp : Keep q H H') : Found H' W F ws fs ls n f0 :=
  ⟨hp.lst kp h.hw, h.dw.keepC hp kp, hp.lst kp h.hf, h.len, fun j hj => by
    obtain ⟨a, e, y⟩ := h.each j hj
    exact ⟨a, e, y.to fun o e => kp _ _ (by
      obtain ⟨kvs, g, _⟩ := y
      exact hp.ne g fun _ z => by cases z) e⟩⟩
theorem dueM_shaped (w m d M : Int) : SeqAt.shaped (dueM w m d M).1 = true := by
  have e1 : SeqAt.shaped (.str ("end" : Str)) = true := (lay_str (by decide +kernel)).shaped (by decide)
  have e2 : SeqAt.shaped (.str ("start" : Str)) = true := (lay_str (by decide +kernel)).shaped (by decide)
  have e3 : ∀ i : Int, SeqAt.shaped (.tuple [.str ("many" : Str), .int i]) = true := fun i => (Lay.tup (k := 0) fun d z => by
    simp only [List.mem_cons, List.not_mem_nil, or_false] at z
    rcases z with rfl | rfl
    · exact lay_str (by decide +kernel)
    · exact lay_int _).shaped (by decide)
  unfold dueM
  split
  · split
    · exact e1
    · rfl
  · split
    · split
      · exact e2
      · rfl
    · split
      · rfl
      · exact e3 m
theorem dueM_in {w m d M : Int} (h0 : 0 ≤ d) (h1 : d ≤ M) : 0 ≤ (dueM w m d M).2 ∧ (dueM w m d M).2 ≤ M := by
  unfold dueM
  split
  · split
    · exact ⟨h0, h1⟩
    · exact ⟨by show 0 ≤ d + 1; omega, by show d + 1 ≤ M; omega⟩
  · split
    · split
      · exact ⟨h0, h1⟩
      · exact ⟨by show 0 ≤ d - 1; omega, by show d - 1 ≤ M; omega⟩
    · split
      · rename_i q
        exact q
      · exact ⟨h0, h1⟩
/-- behind some deeds of a walk -/
structure WkS (P1 P2 : Addr → Prop) (K : PySem.W.Frag) (H0 HS : Hp) (p pc one : Addr) (ls : List LpM) (n : Int) (f0 : Sto) (Hc : Hp) (d t N : Nat) : Prop where
  pen : PenC Hc p pc t
  kp : Keep p H0 Hc
  one : SteAt P1 K Hc one ls n f0 d N
  ot : ∀ b o, P2 b → HS b = some o → Hc b = some o
  ms : MS HS Hc
  fresh : ∀ e, Hc e = none → P1 e
section
variable {P1 P2 : Addr → Prop} {K : PySem.W.Frag} {H0 HS Hc H' : Hp} {p pc one : Addr} {ls : List LpM} {n : Int} {f0 : Sto} {d t N d' t' N' : Nat}
theorem WkS.keep (h : WkS P1 P2 K H0 HS p pc one ls n f0 Hc d t N) (n3 : ¬ P2 p) (k : Keep p Hc H') (hP : PenC H' p pc t') : WkS P1 P2 K H0 HS p pc one ls n f0 H' d t' N :=
  ⟨hP, h.kp.trans k, h.one.keepC h.pen k, fun b o hb e => k b o (fun z => n3 (z ▸ hb)) (h.ot b o hb e), h.ms.trans (MS.keep h.pen.pen k), fun e he => by
    cases z : Hc e with
    | none => exact h.fresh e z
    | some o =>
      by_cases q : e = p
      · obtain ⟨ns, a, l, h1, _⟩ := hP
        rw [q, h1] at he
        cases he
      · rw [k e o q z] at he
        cases he⟩
theorem WkS.same (h : WkS P1 P2 K H0 HS p pc one ls n f0 Hc d t N) (s : Same Hc H') : WkS P1 P2 K H0 HS p pc one ls n f0 H' d t N :=
  ⟨h.pen.same s, h.kp.trans (Keep.of s), h.one.same s, fun b o hb e => s b o (h.ot b o hb e), h.ms.trans (.of s), fun e he => h.fresh e (by
    cases z : Hc e with
    | none => rfl
    | some o =>
      rw [s e o z] at he
      cases he)⟩
theorem WkS.fr (h : WkS P1 P2 K H0 HS p pc one ls n f0 Hc d t N) (n1 : ¬ P1 p) (n2 : ¬ P1 pc) (hd : ∀ b, P1 b → H0 b = none ∧ ¬ P2 b) (f : Fr P1 Hc H') (st : SteAt P1 K H' one ls n f0 d' N') : WkS P1 P2 K H0 HS p pc one ls n f0 H' d' t N' :=
  ⟨h.pen.fr f n1 n2, fun b o nb e => f.keep b o (h.kp b o nb e) (fun z => by
    rw [(hd b z).1] at e
    cases e), st, fun b o hb e => f.keep b o (h.ot b o hb e) (fun z => (hd b z).2 hb), h.ms.trans f.ms, fun e he => h.fresh e (f.fresh he)⟩
end
theorem ways6 : ∀ (j : Nat) (v : V), ([.int 0, .int 0, .int 0, .int 1, .int 1, .int 2] : List V)[j]? = some v → ∃ d : Int, v = .int d ∧ 0 ≤ d ∧ d ≤ 2 := by
  intro j v h
  have h := List.mem_of_getElem? h
  simp only [List.mem_cons, List.not_mem_nil, or_false] at h
  rcases h with h | h | h | h | h | h <;> exact ⟨_, h, by decide, by decide⟩
theorem ways7 {a b c d e f g : Int} : ∀ (j : Nat) (v : V), ([.int a, .int b, .int c, .int d, .int e, .int f, .int g] : List V)[j]? = some v → ∃ d : Int, v = .int d := by
  intro j v h
  have h := List.mem_of_getElem? h
  simp only [List.mem_cons, List.not_mem_nil, or_false] at h
  rcases h with h | h | h | h | h | h | h <;> exact ⟨_, h⟩
def spWalk (K : PySem.W.Frag) : Sp := fun vs H Q _ => ∃ (H0 : Hp) (P1 P2 : Addr → Prop) (p pc one other W F : Addr) (ws fs : List V) (ls : List LpM) (n : Int) (f0 : Sto) (t N : Nat), vs = [.ref p, .ref one, .ref other, .ref W, .ref F] ∧ PenC H0 p pc t ∧ t < 700000000 ∧ Same H0 H ∧ Found H0 W F ws fs ls n f0 ∧ LsOk ls ∧ (works ls n).length ≤ 1000 ∧
  SteAt P1 K H one ls n f0 0 N ∧ N ≤ 1000 ∧ SteAt P2 K H other ls n f0 0 N ∧ (∀ b, P1 b → H0 b = none ∧ ¬ P2 b) ∧ (∀ b, P2 b → H0 b = none) ∧ (∀ e, H e = none → P1 e) ∧ ∀ H', PenC H' p pc (t + 2000) → Keep p H0 H' → Q (.bl true) H'
section
variable {P : Program} {w : World} {K : PySem.W.Frag} {mg : Str → Option Value} {base : Heap}
theorem sc_law_walk_right : FnScope ["_law_pen_here", "_law_one", "_law_other", "_law_works_here", "_law_found", "_law_done", "_law_most", "_law_turn", "_law_way", "_law_many", "_law_due"] ["_law_pen_here", "_law_one", "_law_other", "_law_works_here", "_law_found"] (defScope s_law_walk_right) := ⟨rfl, rfl, rfl, by decide +kernel, rfl, by decide +kernel, by decide +kernel⟩
theorem ok_walk {f : Addr} {fd fg1 : FuncData} (F : FnP K "_law_walk_right" s_law_walk_right f fd) (T : LwTx K mg) (G : SrTx K)
    (dDraw : Dn P w K mg base 1 "_law_draw" ["_law_pen_here", "_law_many"] spDrawC) (dFar : Dn P w K mg base 3 "_law_far" ["_law_pen_here"] spFar)
    (dDeedDue : Dn P w K mg base 1 "_law_deed_due" ["_law_way", "_law_many", "_law_done", "_law_most"] spDeedDue)
    (dDeedT : Dn P w K mg base 6 "_law_deed_told" ["_law_stepper", "_law_way", "_law_many"] (spDeedT K))
    (dIsAt : Dn P w K mg base 6 "_law_is_at" ["_law_stepper", "_law_works_here", "_law_found", "_law_done"] (spIsAt K))
    (Fg : FnOk P w K mg base (L2.CX P w) 5 (He.ma K (CSr K) "go_to") fg1 ["self", "many"] (spGo K)) (hbg : Binds K fg1 ["self", "many"] []) (cg : Meth K (CSr K) "go_to" (He.ma K (CSr K) "go_to")) :
    FnOk P w K mg base CX0 7 f fd ["_law_pen_here", "_law_one", "_law_other", "_law_works_here", "_law_found"] (spWalk K) := by
  refine F.ok sc_law_walk_right (fun vs H Q E h => ?_) (fun cdv A outer s H vs Q E hr h => ?_)
  · obtain ⟨H0, P1, P2, p, pc, one, other, W, F, ws, fs, ls, n, f0, t, N, rfl, _⟩ := h
    rfl
  · obtain ⟨H0, P1, P2, p, pc, one, other, W, F, ws, fs, ls, n, f0, t, N, rfl, hP0, ht, s0, fo, ok, lW, st1, hN, st2, hd, hd2, fresh, kk⟩ := h
    have hu := hu_of hr
    refine ⟨_, PSs.nox (pss_cons (ps_par (i := 5) (j := 6) (by rfl) sc_law_walk_right.nd rfl rfl (by decide) rfl rfl (pa_cons pe_int (pa_cons (pe_callB call_len_seq (by rfl) T.len PySem.boot_len (pa_cons (pv 3) pa_nil)) pa_nil)) (by rfl))
      (pss_cons (ps_for PassesOwn.never rfl (pi_range1 (by rfl) T.range (pa_cons (pe_op op_add pe_int (pe_dn dDraw hr (pa_cons (pv 0) (pa_cons pe_int pa_nil)))) pa_nil)) (pg_name (i := 7) sc_law_walk_right.nd rfl (.inl rfl)) (pss_cons (ps_set (i := 8) sc_law_walk_right.nd rfl (Or.inl rfl) (pe_ix ix_list (pe_lst (pa_cons pe_int (pa_cons pe_int (pa_cons pe_int (pa_cons pe_int (pa_cons pe_int (pa_cons pe_int pa_nil))))))) (pe_dn dDraw hr (pa_cons (pv 0) (pa_cons pe_int pa_nil))) (fun _ _ => rfl)))
      (pss_cons (ps_set (i := 9) sc_law_walk_right.nd rfl (Or.inl rfl) (pe_ix ix_list (pe_lst (pa_cons (pe_dn dDraw hr (pa_cons (pv 0) (pa_cons (pe_op op_add (pv 6) pe_int) pa_nil))) (pa_cons (pv 6) (pa_cons pe_int (pa_cons (pe_op op_add (pv 6) pe_int) (pa_cons (pe_un un_neg pe_int) (pa_cons (pe_un un_neg (pv 5)) (pa_cons (pe_op op_add (pv 6) (pe_dn dFar hr (pa_cons (pv 0) pa_nil))) pa_nil)))))))) (pe_dn dDraw hr (pa_cons (pv 0) (pa_cons pe_int pa_nil))) (fun _ _ => rfl)))
      (pss_cons (ps_asg (pe_dn dDeedDue hr (pa_cons (pv 8) (pa_cons (pv 9) (pa_cons (pv 5) (pa_cons (pv 6) pa_nil))))) (pg_tup (by rfl) (pgs_cons (pg_name (i := 10) sc_law_walk_right.nd rfl (.inl rfl)) (pgs_cons (pg_name (i := 5) sc_law_walk_right.nd rfl (.inl rfl)) pgs_nil))))
      (pss_one (ps_if (PW.pt (pw_or (pt_cmpR (op_neD hr.units) (pe_dn dDeedT hr (pa_cons (pv 1) (pa_cons (pv 8) (pa_cons (pv 9) pa_nil)))) (pv 10) (nomark _)) (pw_or1 (pt_not (pt_val (pe_dn dIsAt hr (pa_cons (pv 1) (pa_cons (pv 3) (pa_cons (pv 4) (pa_cons (pv 5) pa_nil)))))))))) (pss_one (ps_ret pe_bl)) pss_nil))))))
      (pss_cons (ps_if (pt_not (pt_val (pe_dn dIsAt hr (pa_cons (pv 2) (pa_cons (pv 3) (pa_cons (pv 4) (pa_cons pe_int pa_nil))))))) (pss_one (ps_ret pe_bl)) pss_nil)
      (pss_one (ps_ret (pe_and (pe_cmpR op_isN (pe_methX (K := K) rfl at_E0 (pv 1) G.cl cg Fg (hr.mono (by decide)) hbg (pa_cons (pv 6) pa_nil)) pe_non (nomark _)) (pe_one (pe_dn dIsAt hr (pa_cons (pv 1) (pa_cons (pv 3) (pa_cons (pv 4) (pa_cons (pv 6) pa_nil)))))))))))), ?_⟩
    have lws : ws.length = (works ls n).length := by rw [fo.dw.len, List.length_map]
    have hP := hP0.same s0
    have n1 : ¬ P1 p := fun z => by
      obtain ⟨ns, a, l, h1, _⟩ := hP0
      rw [(hd _ z).1] at h1
      cases h1
    have n2 : ¬ P1 pc := fun z => by
      obtain ⟨ns, a, l, _, h1, _⟩ := hP0
      rw [(hd _ z).1] at h1
      cases h1
    refine ⟨_, rfl, W, _, rfl, .inl (SqL.of (s0 _ _ fo.hw)), _, _, rfl, ?_⟩
    refine norm (σ' := [some (.ref p), some (.ref one), some (.ref other), some (.ref W), some (.ref F), some (.int ((0 : Nat) : Int)), some (.int (ws.length : Int)), none, none, none, none]) rfl ?_
    rw [lws]
    refine ⟨_, rfl, p, 21, t, pc, rfl, by decide, by decide, by omega, hP, fun H1 d d0 d1 hP1 k1 => ⟨_, _, rfl, rfl, ?_⟩⟩
    obtain ⟨m, hm⟩ : ∃ m : Nat, (m : Int) = 4 + d := ⟨(4 + d).toNat, by omega⟩
    refine ⟨(m : Int), congrArg (fun z => [V.int z]) hm.symm, by omega, by omega, ?_⟩
    rw [Int.toNat_natCast]
    obtain ⟨M, hM⟩ : ∃ M, M = (works ls n).length := ⟨_, rfl⟩
    have n3 : ¬ P2 p := fun z => by
      obtain ⟨ns, a, l, h1, _⟩ := hP0
      rw [hd2 _ z] at h1
      cases h1
    have W0 : WkS P1 P2 K H0 H p pc one ls n f0 H 0 t N := ⟨hP, Keep.of s0, st1, fun _ _ _ e => e, .refl _, fresh⟩
    refine for_range (lo := 0) (n := m) (fun i σ H' => ∃ (d : Nat) (v7 v8 v9 v10 : Option V), σ = [some (.ref p), some (.ref one), some (.ref other), some (.ref W), some (.ref F), some (.int (d : Int)), some (.int ((works ls n).length : Int)), v7, v8, v9, v10] ∧ WkS P1 P2 K H0 H p pc one ls n f0 H' d (t + 1 + 40 * i) (N + 4000 * i)) ⟨0, _, _, _, _, rfl, W0.keep n3 k1 hP1⟩ ?_ ?_
    · rintro i σ Hc hi ⟨d, v7, v8, v9, v10, rfl, S⟩
      have hi : i < m := hi
      refine normG (σ' := [some (.ref p), some (.ref one), some (.ref other), some (.ref W), some (.ref F), some (.int (d : Int)), some (.int ((works ls n).length : Int)), some (.int (0 + (i : Int))), v8, v9, v10]) rfl ?_
      refine ⟨sz6, fun X1 hX1 => ?_⟩
      have sA := Same.new (.lst [.int 0, .int 0, .int 0, .int 1, .int 1, .int 2]) (Same.refl Hc) hX1
      have SA := S.same sA
      refine ⟨_, rfl, p, 6, t + 1 + 40 * i, pc, rfl, by decide, by decide, by omega, SA.pen, fun H2 a a0 a1 hP2 k2 => ?_⟩
      obtain ⟨j, rfl, hj⟩ := drawn (n := 6) a0 a1
      obtain ⟨v, hv⟩ : ∃ v, ([.int 0, .int 0, .int 0, .int 1, .int 1, .int 2] : List V)[j]? = some v := ⟨_, List.getElem?_eq_getElem hj⟩
      obtain ⟨way, rfl, w0, w2⟩ := ways6 j v hv
      have S2 := SA.keep n3 k2 hP2
      refine ⟨X1, _, _, _, rfl, rfl, SqL.of (SA.pen.lst k2 upd_same), atI_nat hv, ?_⟩
      refine normG (σ' := [some (.ref p), some (.ref one), some (.ref other), some (.ref W), some (.ref F), some (.int (d : Int)), some (.int ((works ls n).length : Int)), some (.int (0 + (i : Int))), some (.int way), v9, v10]) rfl ?_
      refine ⟨_, rfl, _, rfl, _, _, rfl, rfl, p, ((works ls n).length : Int) + 1, t + 2 + 40 * i, pc, rfl, by omega, by omega, by omega, hP2.mono (by omega), fun H3 b b0 b1 hP3 k3 => ?_⟩
      have S3 := S2.keep n3 k3 hP3
      refine ⟨_, rfl, _, rfl, _, _, rfl, rfl, _, rfl, _, rfl, _, rfl, _, rfl, _, rfl, p, pc, t + 3 + 40 * i, rfl, by omega, hP3.mono (by omega), fun H4 g g0 g1 hP4 k4 => ?_⟩
      have S4 := S3.keep n3 k4 hP4
      refine ⟨_, _, rfl, rfl, sz7, fun X2 hX2 => ?_⟩
      have sB := Same.new (.lst [.int b, .int ((works ls n).length : Int), .int 0, .int (((works ls n).length : Int) + 1), .int (-1), .int (-(d : Int)), .int (((works ls n).length : Int) + g)]) (Same.refl H4) hX2
      have SB := S4.same sB
      refine ⟨_, rfl, p, 7, t + 33 + 40 * i, pc, rfl, by decide, by decide, by omega, SB.pen.mono (by omega), fun H5 c c0 c1 hP5 k5 => ?_⟩
      have S5 := SB.keep n3 k5 hP5
      obtain ⟨j, rfl, hj⟩ := drawn (n := 7) c0 c1
      obtain ⟨v, hv⟩ : ∃ v, ([.int b, .int ((works ls n).length : Int), .int 0, .int (((works ls n).length : Int) + 1), .int (-1), .int (-(d : Int)), .int (((works ls n).length : Int) + g)] : List V)[j]? = some v := ⟨_, List.getElem?_eq_getElem hj⟩
      obtain ⟨many, rfl⟩ := ways7 j v hv
      refine ⟨X2, _, _, _, rfl, rfl, SqL.of (SB.pen.lst k5 upd_same), atI_nat hv, ?_⟩
      refine normG (σ' := [some (.ref p), some (.ref one), some (.ref other), some (.ref W), some (.ref F), some (.int (d : Int)), some (.int ((works ls n).length : Int)), some (.int (0 + (i : Int))), some (.int way), some (.int many), v10]) rfl ?_
      have dle := S5.one.ins.1
      refine ⟨_, rfl, _, rfl, _, rfl, _, rfl, way, many, (d : Int), ((works ls n).length : Int), rfl, fun tt u H6 s6 htt du => ?_⟩
      have S6 := S5.same s6
      obtain ⟨in0, in1⟩ := dueM_in (w := way) (m := many) (Int.natCast_nonneg d) (Int.ofNat_le.mpr dle)
      obtain ⟨d', hd'⟩ : ∃ d' : Nat, (d' : Int) = (dueM way many (d : Int) ((works ls n).length : Int)).2 := ⟨_, Int.toNat_of_nonneg in0⟩
      rw [← hd'] at htt in1
      refine ⟨tt, _, rfl, SqT.of htt, rfl, _, _, rfl, _, _, rfl, rfl, ?_⟩
      refine norm (σ' := [some (.ref p), some (.ref one), some (.ref other), some (.ref W), some (.ref F), some (.int (d' : Int)), some (.int ((works ls n).length : Int)), some (.int (0 + (i : Int))), some (.int way), some (.int many), some u]) rfl ?_
      refine ⟨_, rfl, _, rfl, _, rfl, P1, one, way, many, ls, n, f0, d, N + 4000 * i, rfl, w0, w2, S6.one, ok, lW, by omega, S6.fresh, fun u2 H7 st7 fr7 du2 => ?_⟩
      rw [← hd', Int.toNat_natCast] at st7
      have S7 := S6.fr n1 n2 hd fr7 st7
      refine ⟨_, rfl, ?_⟩
      refine ⟨_, _, DT.dp _ du2, DT.dp _ (du.to fr7.ms.t), dueM_shaped _ _ _ _, dueM_shaped _ _ _ _, ?_⟩
      rw [SeqAt.eqv_refl _ (SeqAt.canLay_of_shaped (dueM_shaped _ _ _ _))]
      refine ⟨_, rfl, if_no rfl ?_⟩
      refine ⟨_, rfl, _, rfl, _, rfl, _, rfl, P1, one, W, F, ws, fs, ls, n, f0, d', _, rfl, S7.one, fo.keepC hP0 S7.kp, lW, fun H8 s8 => ⟨_, rfl, if_no rfl ?_⟩⟩
      have S8 := S7.same s8
      refine ⟨d', _, _, _, _, rfl, ⟨S8.pen.mono (by omega), S8.kp, S8.one.up (by omega), S8.ot, S8.ms, S8.fresh⟩⟩
    · rintro σ Hc ⟨d, v7, v8, v9, v10, rfl, S⟩
      have stO := st2.to S.ot S.ms
      refine ⟨_, rfl, _, rfl, _, rfl, P2, other, W, F, ws, fs, ls, n, f0, 0, N, rfl, stO, fo.keepC hP0 S.kp, lW, fun H1 s1 => ⟨_, rfl, if_no rfl ?_⟩⟩
      have S1 := S.same s1
      obtain ⟨_, dx, v4, wk4, a4, ov4, hp4⟩ := S1.one.ins
      have no4 : ∀ {x : Str}, ¬ x = "program" → ¬ x = "n" → ¬ x = "works" → ¬ x = "cells" → ¬ x = "overwritten" → (srf v4 n wk4 a4 ov4).lookup x = none := srf_no
      refine ⟨_, rfl, one, dx, _, rfl, hp4, no4 (by decide +kernel) (by decide +kernel) (by decide +kernel) (by decide +kernel) (by decide +kernel), _, rfl, P1, one, ls, n, f0, d, _, ((works ls n).length : Int), rfl, S1.one, ok, lW, by omega, S1.fresh, fun z => absurd ⟨Int.natCast_nonneg _, Int.le_refl _⟩ z, fun _ H2 st4 fr4 => ?_⟩
      rw [Int.toNat_natCast] at st4
      have S2 := S1.fr n1 n2 hd fr4 st4
      refine ⟨rfl, _, rfl, iteT ?_⟩
      refine ⟨_, rfl, _, rfl, _, rfl, _, rfl, P1, one, W, F, ws, fs, ls, n, f0, (works ls n).length, _, rfl, S2.one, fo.keepC hP0 S2.kp, lW, fun H3 s3 => ?_⟩
      have S3 := S2.same s3
      exact kk _ (S3.pen.mono (by omega)) S3.kp
end
end K28
set_option maxHeartbeats 4000000
namespace K28
open PySem PySem.Spec PyProof.Rows L2 Z
/-- what a stepper's value of a cell is, or what is refused -/
def refD (ls : List LpM) (n : Int) (gs : List Gv) (x : Str) : PyData :=
  if ¬ (0 ≤ n ∧ n ≤ TOP) then .tuple [.str "size", .int n] else if 20000 < tot ls n then .tuple [.str "long", .int (tot ls n)] else match gBad gs with
  | some y => .tuple [.str "name", .str y]
  | none => if isName x = false then .tuple [.str "name", .str x] else .int (held (giv gs) x 0)
def spRefused (K : PySem.W.Frag) : Sp := fun vs H Q _ => ∃ (v : V) (ls : List LpM) (n : Int) (l : Addr) (xs : List V) (gs : List Gv) (x : Str), vs = [v, .int n, .ref l, .str x] ∧
  PrOb K H v ls ∧ LsOk ls ∧ SqA K H l xs ∧ DTs H xs (gs.map gvD) ∧ gs.length ≤ 1000 ∧ (∀ g ∈ gs, g.1.length ≤ 1000) ∧ x.length ≤ 1000 ∧ ∀ u H', Same H H' → DT H' u (refD ls n gs x) → Q u H'
section
variable {P : Program} {w : World} {K : PySem.W.Frag} {mg : Str → Option Value} {base : Heap}
theorem sc_law_refused : FnScope ["_law_program", "_law_n", "_law_given", "_law_name_here", "_law_told", "e"] ["_law_program", "_law_n", "_law_given", "_law_name_here"] (defScope s_law_refused) := ⟨rfl, rfl, rfl, by decide +kernel, rfl, by decide +kernel, by decide +kernel⟩
theorem ok_refused {f : Addr} {fd fv1 : FuncData} (F : FnP K "_law_refused" s_law_refused f fd) (T : LwTx K mg) (G : SrTx K) (R : RErTx K mg) (MSr : MkSr P w K mg base)
    (Fv : FnOk P w K mg base (L2.CX P w) 5 (He.ma K (CSr K) "value_of") fv1 ["self", "array", "cell"] (spSV K)) (hbv : Binds K fv1 ["self", "array", "cell"] []) (cv : Meth K (CSr K) "value_of" (He.ma K (CSr K) "value_of")) :
    FnOk P w K mg base CX0 8 f fd ["_law_program", "_law_n", "_law_given", "_law_name_here"] (spRefused K) := by
  refine F.ok sc_law_refused (fun vs H Q E h => ?_) (fun cdv A outer s H vs Q E hr h => ?_)
  · obtain ⟨v, ls, n, l, xs, gs, x, rfl, _⟩ := h
    rfl
  · obtain ⟨v, ls, n, l, xs, gs, x, rfl, ob, ok, sq, dg, lg, lens, lx, k⟩ := h
    have hu := hu_of hr
    refine ⟨_, PSs.nox (pss_cons (ps_set (i := 4) sc_law_refused.nd rfl (Or.inl rfl) pe_non)
      (pss_cons (ps_try_asMany rfl rfl sc_law_refused.nd takes0 (fun W pn xe tk _ => (pss_one (ps_set (i := 4) sc_law_refused.nd rfl (Or.inl rfl) (pe_methX (K := K) rfl (fun σ => passAt tk σ) (pe_SrK (K := K) MSr rfl hr (fun σ => passAt tk σ) (pa_cons (pv 0) (pa_cons (pv 1) pa_nil)) (pk_cons (pv 2) pk_nil)) G.cl cv Fv (hr.mono (by decide)) hbv (pa_cons (pv 3) (pa_cons pe_int pa_nil)))))) (Clauses.cons (i := 5) rfl rfl ⟨rfl, by decide, .inl R.EZ.gC⟩ (fun a oe cls d pn hz hf => (pss_one (ps_set (i := 4) sc_law_refused.nd rfl (Or.inl rfl) (pe_tup (pa_cons pe_str (pa_cons (pe_xf R.EZ.ex.xf (R.EZ.na _ (by simp)) hz hf (pv 5)) pa_nil)))))) (Clauses.cons (i := 5) rfl rfl ⟨rfl, by decide, .inl R.EL.gC⟩ (fun a oe cls d pn hz hf => (pss_one (ps_set (i := 4) sc_law_refused.nd rfl (Or.inl rfl) (pe_tup (pa_cons pe_str (pa_cons (pe_xf R.EL.ex.xf (R.EL.na _ (by simp)) hz hf (pv 5)) pa_nil)))))) (Clauses.cons (i := 5) rfl rfl ⟨rfl, by decide, .inl R.EN.gC⟩ (fun a oe cls d pn hz hf => (pss_one (ps_set (i := 4) sc_law_refused.nd rfl (Or.inl rfl) (pe_tup (pa_cons pe_str (pa_cons (pe_xf R.EN.ex.xf (R.EN.na _ (by simp)) hz hf (pv 5)) pa_nil)))))) Clauses.nil))))
      (pss_one (ps_ret (pv 4))))), ?_⟩
    refine normG (i := 4) (v := .non) (σ := [some v, some (.int n), some (.ref l), some (.str x), none, none]) (σ' := [some v, some (.int n), some (.ref l), some (.str x), some .non, none]) rfl ?_
    dsimp only
    refine mid (fun σ' H' => ∃ u, σ' = [some v, some (.int n), some (.ref l), some (.str x), some u, none] ∧ Q u H') (fun key => ?_) ?_
    · have e1 : ¬ (0 ≤ n ∧ n ≤ TOP) → refD ls n gs x = .tuple [.str "size", .int n] := fun h => by unfold refD; rw [if_pos h]
      have e2 : 0 ≤ n ∧ n ≤ TOP → 20000 < tot ls n → refD ls n gs x = .tuple [.str "long", .int (tot ls n)] := fun h h2 => by unfold refD; rw [if_neg (fun z => z h), if_pos h2]
      have e3 : ∀ y, 0 ≤ n ∧ n ≤ TOP → tot ls n ≤ 20000 → gBad gs = some y → refD ls n gs x = .tuple [.str "name", .str y] := fun y h h2 h3 => by unfold refD; rw [if_neg (fun z => z h), if_neg (by omega), h3]
      have e4 : 0 ≤ n ∧ n ≤ TOP → tot ls n ≤ 20000 → gBad gs = none → isName x = false → refD ls n gs x = .tuple [.str "name", .str x] := fun h h2 h3 h4 => by
        unfold refD
        rw [if_neg (fun z => z h), if_neg (by omega), h3]
        dsimp only
        rw [if_pos h4]
      have e5 : 0 ≤ n ∧ n ≤ TOP → tot ls n ≤ 20000 → gBad gs = none → isName x = true → refD ls n gs x = .int (held (giv gs) x 0) := fun h h2 h3 h4 => by
        unfold refD
        rw [if_neg (fun z => z h), if_neg (by omega), h3]
        dsimp only
        rw [if_neg (by rw [h4]; decide)]
      refine ⟨_, rfl, _, rfl, _, rfl, rfl, rfl, v, .int n, ls, l, xs, gs, rfl, ob, ok, sq, dg, lg, lens, .inr ⟨n, rfl, fun hn d H2 s2 hd => ?_, fun hn => ⟨fun hm d H2 s2 hd => ?_, fun hm => ⟨fun y hy d H2 s2 hd => ?_, fun gb p H1 s1 st => ?_⟩⟩⟩⟩
      · exact ⟨true, R.xZZ, fun _ a ha => ⟨_, rfl, rfl, rfl, d, _, _, rfl, (show H2 d = some (.xd [("n", .int n)]) from hd), look1, sz2, fun t ht => key _ _ ⟨_, rfl, k _ _ (Same.new _ s2 ht) (by rw [e1 hn]; exact .tup upd_same (.cons (.str _) (.cons (.int _) .nil)))⟩⟩, fun q => Bool.noConfusion q⟩
      · exact ⟨false, R.xLZ, fun q => Bool.noConfusion q, fun _ => ⟨true, R.xLL, fun _ a ha => ⟨_, rfl, rfl, rfl, d, _, _, rfl, (show H2 d = some (.xd [("many", .int (tot ls n))]) from hd), look1, sz2, fun t ht => key _ _ ⟨_, rfl, k _ _ (Same.new _ s2 ht) (by rw [e2 hn hm]; exact .tup upd_same (.cons (.str _) (.cons (.int _) .nil)))⟩⟩, fun q => Bool.noConfusion q⟩⟩
      · exact ⟨false, R.xNZ, fun q => Bool.noConfusion q, fun _ => ⟨false, R.xNL, fun q => Bool.noConfusion q, fun _ => ⟨true, R.xNN, fun _ a ha => ⟨_, rfl, rfl, rfl, d, _, _, rfl, (show H2 d = some (.xd [("name", .str y)]) from hd), look1, sz2, fun t ht => key _ _ ⟨_, rfl, k _ _ (Same.new _ s2 ht) (by rw [e3 y hn hm hy]; exact .tup upd_same (.cons (.str _) (.cons (.str _) .nil)))⟩⟩, fun q => Bool.noConfusion q⟩⟩⟩
      · obtain ⟨_, dx, v4, wk4, a4, ov4, hp4⟩ := st.ins
        have no4 : ∀ {x : Str}, ¬ x = "program" → ¬ x = "n" → ¬ x = "works" → ¬ x = "cells" → ¬ x = "overwritten" → (srf v4 n wk4 a4 ov4).lookup x = none := srf_no
        refine ⟨p, dx, _, rfl, hp4, no4 (by decide +kernel) (by decide +kernel) (by decide +kernel) (by decide +kernel) (by decide +kernel), _, rfl, _, p, ls, n, giv gs, 0, _, x, 0, rfl, st, lx, fun nb d H2 s2 hd => ?_, fun nb H2 s2 => ?_⟩
        · have s02 := s1.trans s2
          exact ⟨false, R.xNZ, fun q => Bool.noConfusion q, fun _ => ⟨false, R.xNL, fun q => Bool.noConfusion q, fun _ => ⟨true, R.xNN, fun _ a ha => ⟨_, rfl, rfl, rfl, d, _, _, rfl, (show H2 d = some (.xd [("name", .str x)]) from hd), look1, sz2, fun t ht => key _ _ ⟨_, rfl, k _ _ (Same.new _ s02 ht) (by rw [e4 hn hm gb nb]; exact .tup upd_same (.cons (.str _) (.cons (.str _) .nil)))⟩⟩, fun q => Bool.noConfusion q⟩⟩⟩
        · exact key _ _ ⟨_, rfl, k _ _ (s1.trans s2) (by rw [e5 hn hm gb nb]; exact .int _)⟩
    · rintro σ H3 ⟨u, rfl, q⟩
      exact ⟨_, rfl, q⟩
end
end K28
set_option maxHeartbeats 4000000
namespace K28
open PySem PySem.Spec PyProof.Rows L2 Z
/-- a loop of three times the size, without statements -/
def wide : LpM := ⟨0, 0, 1, 3, 0, 1, 1, false, []⟩
theorem wide_ok : LpOk wide := ⟨by decide, by decide, by decide, by decide, by decide, by decide, by decide, by decide, by decide, by decide, by decide, by decide, by decide, by decide, fun _ => rfl, by decide, by decide, fun _ h => (List.not_mem_nil h).elim⟩
theorem wide_tot {n : Int} (h : 0 < n) : tot [wide] n = 3 * n := by
  show mt_ (lc_ ((0 * n + 0).fdiv 1) 1) ((3 * n + 0).fdiv 1) 1 + 0 = 3 * n
  have e1 : (0 * n + 0).fdiv 1 = 0 := by simp
  have e2 : (3 * n + 0).fdiv 1 = 3 * n := by simp
  rw [e1, e2]
  unfold mt_ lc_
  rw [if_pos (by decide : (0 : Int) ≤ 0)]
  have e3 : ((0 : Int) - 3 * n).fdiv 1 = 0 - 3 * n := by simp
  rw [e3, if_pos (by omega)]
  omega
theorem odds : ∀ x ∈ ([.str "", .str "A", .str "by", .str "a1"] : List V), ∃ o : Str, x = .str o ∧ isName o = false ∧ o.length ≤ 1000 ∧ PyData.strOk o = true := by
  intro x h
  simp only [List.mem_cons, List.not_mem_nil, or_false] at h
  rcases h with h | h | h | h <;> exact ⟨_, h, by decide +kernel, by decide +kernel, by decide +kernel⟩
theorem sh_si {x : Str} {i : Int} (h : PyData.strOk x = true) : SeqAt.shaped (.tuple [.str x, .int i]) = true := (Lay.tup (k := 0) fun d z => by
  simp only [List.mem_cons, List.not_mem_nil, or_false] at z
  rcases z with rfl | rfl
  · exact lay_str h
  · exact lay_int _).shaped (by decide)
theorem sh_ss {x y : Str} (h : PyData.strOk x = true) (h2 : PyData.strOk y = true) : SeqAt.shaped (.tuple [.str x, .str y]) = true := (Lay.tup (k := 0) fun d z => by
  simp only [List.mem_cons, List.not_mem_nil, or_false] at z
  rcases z with rfl | rfl
  · exact lay_str h
  · exact lay_str h2).shaped (by decide)
theorem gbad2 {o : Str} {i j k l : Int} (h : isName o = false) : gBad [("a", i, j), (o, k, l)] = some o := by
  unfold gBad
  rw [List.find?_cons_of_neg (by
    show ¬ (!isName ("a" : Str)) = true
    rw [show isName ("a" : Str) = true by decide +kernel]
    decide), List.find?_cons_of_pos (by
    show (!isName o) = true
    rw [h]
    rfl)]
  rfl
def spRefR (K : PySem.W.Frag) : Sp := fun vs H Q _ => ∃ (p pc : Addr) (v : V) (ls : List LpM) (n : Int) (t : Nat), vs = [.ref p, v, .int n] ∧ PenC H p pc t ∧ t < 900000000 ∧ PrOb K H v ls ∧ LsOk ls ∧ 0 ≤ n ∧ n ≤ TOP ∧ tot ls n ≤ 20000 ∧
  ∀ H', PenC H' p pc (t + 2) → Keep p H H' → Q (.bl true) H'
section
variable {P : Program} {w : World} {K : PySem.W.Frag} {mg : Str → Option Value} {base : Heap}
theorem sc_law_refusals_right : FnScope ["_law_pen_here", "_law_program", "_law_n", "_law_odd", "_law_wide", "_law_far_here"] ["_law_pen_here", "_law_program", "_law_n"] (defScope s_law_refusals_right) := ⟨rfl, rfl, rfl, by decide +kernel, rfl, by decide +kernel, by decide +kernel⟩
theorem ok_refusals {f : Addr} {fd : FuncData} (F : FnP K "_law_refusals_right" s_law_refusals_right f fd) (T : LwTx K mg) (M : MkS P w K mg base) (MLp : MkLp P w K mg base) (MPr : MkPr P w K mg base)
    (dDraw : Dn P w K mg base 1 "_law_draw" ["_law_pen_here", "_law_many"] spDrawC) (dPick : Dn P w K mg base 2 "_law_pick" ["_law_pen_here", "_law_some"] spPick)
    (dRefused : Dn P w K mg base 8 "_law_refused" ["_law_program", "_law_n", "_law_given", "_law_name_here"] (spRefused K)) :
    FnOk P w K mg base CX0 9 f fd ["_law_pen_here", "_law_program", "_law_n"] (spRefR K) := by
  refine F.ok sc_law_refusals_right (fun vs H Q E h => ?_) (fun cdv A outer s H vs Q E hr h => ?_)
  · obtain ⟨p, pc, v, ls, n, t, rfl, _⟩ := h
    rfl
  · obtain ⟨p, pc, v, ls, n, t, rfl, hP, ht, ob, ok, n0, n1, few, kk⟩ := h
    have hu := hu_of hr
    refine ⟨_, PSs.nox (pss_cons (ps_par (i := 3) (j := 4) (by rfl) sc_law_refusals_right.nd rfl rfl (by decide) rfl rfl (pa_cons (pe_dn dPick hr (pa_cons (pv 0) (pa_cons (pe_lst (pa_cons pe_str (pa_cons pe_str (pa_cons pe_str (pa_cons pe_str pa_nil))))) pa_nil))) (pa_cons (pe_PrP (K := K) MPr rfl hr at_E0 (pa_cons (pe_lst (pa_cons (pe_LpP (K := K) MLp rfl hr at_E0 (pa_cons pe_int (pa_cons (pe_SK (K := K) rfl T.toStTx M hr (pa_cons pe_int (pa_cons pe_int (pa_cons pe_int pa_nil)))) (pa_cons (pe_lst pa_nil) pa_nil)))) pa_nil)) pa_nil)) pa_nil)) (by rfl))
      (pss_cons (ps_set (i := 5) sc_law_refusals_right.nd rfl (Or.inl rfl) (pe_op op_add pe_int (pe_dn dDraw hr (pa_cons (pv 0) (pa_cons (pe_op op_pow pe_int pe_int) pa_nil)))))
      (pss_cons (ps_if (pt_cmpR (op_neD hr.units) (pe_dn dRefused hr (pa_cons (pv 4) (pa_cons (pe_un un_neg (pv 5)) (pa_cons (pe_lst (pa_cons (pe_tup (pa_cons (pv 3) (pa_cons pe_int (pa_cons pe_int pa_nil)))) pa_nil)) (pa_cons pe_str pa_nil))))) (pe_tup (pa_cons pe_str (pa_cons (pe_un un_neg (pv 5)) pa_nil))) (nomark _)) (pss_one (ps_ret pe_bl)) pss_nil)
      (pss_cons (ps_if (pt_cmpR (op_neD hr.units) (pe_dn dRefused hr (pa_cons (pv 4) (pa_cons (pv 5) (pa_cons (pe_lst (pa_cons (pe_tup (pa_cons (pv 3) (pa_cons pe_int (pa_cons pe_int pa_nil)))) pa_nil)) (pa_cons pe_str pa_nil))))) (pe_tup (pa_cons pe_str (pa_cons (pe_op op_mul pe_int (pv 5)) pa_nil))) (nomark _)) (pss_one (ps_ret pe_bl)) pss_nil)
      (pss_cons (ps_if (pt_cmpR (op_neD hr.units) (pe_dn dRefused hr (pa_cons (pv 1) (pa_cons (pv 2) (pa_cons (pe_lst (pa_cons (pe_tup (pa_cons pe_str (pa_cons pe_int (pa_cons pe_int pa_nil)))) (pa_cons (pe_tup (pa_cons (pv 3) (pa_cons pe_int (pa_cons pe_int pa_nil)))) pa_nil))) (pa_cons pe_str pa_nil))))) (pe_tup (pa_cons pe_str (pa_cons (pv 3) pa_nil))) (nomark _)) (pss_one (ps_ret pe_bl)) pss_nil)
      (pss_one (ps_ret (pe_and (pe_cmpR (op_eqD hr.units) (pe_dn dRefused hr (pa_cons (pv 1) (pa_cons (pv 2) (pa_cons (pe_lst pa_nil) (pa_cons (pv 3) pa_nil))))) (pe_tup (pa_cons pe_str (pa_cons (pv 3) pa_nil))) (nomark _)) (pe_one (pe_cmpR op_eq (pe_dn dRefused hr (pa_cons (pv 1) (pa_cons (pv 2) (pa_cons (pe_lst (pa_cons (pe_tup (pa_cons pe_str (pa_cons pe_int (pa_cons pe_int pa_nil)))) pa_nil)) (pa_cons pe_str pa_nil))))) pe_int (nomark _))))))))))), ?_⟩
    refine ⟨_, rfl, sz4, fun X hX => ?_⟩
    have sX := Same.new (.lst [.str "", .str "A", .str "by", .str "a1"]) (Same.refl H) hX
    refine ⟨p, pc, X, _, t, rfl, upd_same, (by show 0 < 4; decide), (by show 4 < 100; decide), by omega, hP.same sX, fun H1 x hx hP1 k1 => ?_⟩
    obtain ⟨o, rfl, no, lo, so⟩ := odds x hx
    have kA : Keep p H H1 := (Keep.of sX).trans k1
    refine ⟨0, 3, 0, rfl, fun r1 H2 s2 _ hr1 => ⟨Nat.zero_le _, fun L0 hL0 => ?_⟩⟩
    have s3 := Same.new (.lst []) (Same.refl H2) hL0
    refine ⟨.int 0, .ref r1, L0, [], (0, 0, 0, 1), (0, 3, 0, 1), 1, false, rfl, .inr ⟨.inr ⟨rfl, rfl, rfl⟩, rfl⟩, .inr ⟨.inl ⟨r1, rfl, hr1.same s3⟩, rfl⟩, .inl (SqL.of upd_same), Out.ok (by rfl) fun lp H3 s4 hlp => ?_⟩
    have lob : LpOb K H3 (.ref lp) wide := ⟨lp, (0, 0, 0, 1), (0, 3, 0, 1), [], rfl, hlp, ⟨rfl, by decide, by decide, by decide, by decide, by decide, by decide, fun _ => rfl⟩, ⟨rfl, by decide, by decide, by decide, by decide, by decide, by decide, fun _ => rfl⟩, .nil⟩
    refine ⟨sz1, fun L1 hL1 => ?_⟩
    have s5 := Same.new (.lst [.ref lp]) (Same.refl H3) hL1
    have fa : Fa (LpOb K (upd H3 L1 (.lst [.ref lp]))) [.ref lp] [wide] := Fa.snoc .nil (lob.same s5)
    refine ⟨L1, [.ref lp], _, rfl, .inl (SqL.of upd_same), lpNs_of fa, (by show 0 ≤ 4000; decide), Out.ok (by rfl) fun pw ys H4 s6 h6 _ _ _ => ?_⟩
    have obw : PrOb K H4 (.ref pw) [wide] := ⟨pw, _, ys, rfl, h6, fa.imp fun _ _ z => z.same s6⟩
    have s14 : Same H1 H4 := s2.trans (s3.trans (s4.trans (s5.trans s6)))
    have kB : Keep p H H4 := kA.trans (Keep.of s14)
    have hP4 := hP1.same s14
    refine ⟨_, _, rfl, ?_⟩
    refine norm (σ' := [some (.ref p), some v, some (.int n), some (.str o), some (.ref pw), none]) rfl ?_
    refine ⟨_, rfl, _, _, rfl, rfl, ⟨by decide, by decide, by decide⟩, p, _, t + 1, pc, rfl, by decide, by decide, by omega, hP4, fun H5 d d0 d1 hP5 k5 => ⟨_, _, rfl, rfl, ?_⟩⟩
    have d1 : d < 1000000 := d1
    obtain ⟨far, hfar⟩ : ∃ far, far = 6667 + d := ⟨_, rfl⟩
    refine normG (σ' := [some (.ref p), some v, some (.int n), some (.str o), some (.ref pw), some (.int far)]) (by rw [hfar]; rfl) ?_
    have kC : Keep p H H5 := kB.trans k5
    have ob5 : PrOb K H5 v ls := ob.ms (MS.keep hP.pen kC)
    have obw5 : PrOb K H5 (.ref pw) [wide] := obw.ms (MS.keep hP4.pen k5)
    have okw : LsOk [wide] := ⟨by decide, fun l hl => by rw [List.mem_singleton.mp hl]; exact wide_ok⟩
    have la : ("a" : Str).length ≤ 1000 := by decide +kernel
    have sa : PyData.strOk ("name" : Str) = true := by decide +kernel
    refine ⟨_, rfl, _, rfl, _, rfl, _, rfl, sz3, fun t1 ht1 => ⟨sz1, fun L2 hL2 => ?_⟩⟩
    obtain ⟨H6, eH6⟩ : ∃ X, X = upd (upd H5 t1 (.tup [.str o, .int 0, .int 1])) L2 (.lst [.ref t1]) := ⟨_, rfl⟩
    have s56 : Same H5 H6 := by rw [eH6]; exact Same.new _ (Same.new _ (Same.refl H5) ht1) hL2
    have g6 : DTs H6 [.ref t1] ([(o, 0, 1)].map gvD) := by
      rw [eH6]
      exact .cons (.tup (Same.new _ (Same.refl _) hL2 _ _ upd_same) (.cons (.str _) (.cons (.int _) (.cons (.int _) .nil)))) .nil
    have eL6 : H6 L2 = some (.lst [.ref t1]) := by rw [eH6]; exact upd_same
    rw [← eH6]
    refine ⟨.ref pw, [wide], -far, L2, _, [(o, 0, 1)], "a", rfl, obw5.same s56, okw, .inl (SqL.of eL6), g6, (by show 1 ≤ 1000; decide), fun g hg => (by rw [List.mem_singleton.mp hg]; exact lo), la, fun u H7 s7 du => ?_⟩
    have e1 : refD [wide] (-far) [(o, 0, 1)] "a" = .tuple [.str "size", .int (-far)] := by unfold refD; rw [if_pos (by omega)]
    rw [e1] at du
    refine ⟨_, rfl, _, rfl, sz2, fun t2 ht2 => ?_⟩
    have s8 := Same.new (.tup [.str "size", .int (-far)]) (Same.refl H7) ht2
    refine ⟨_, _, DT.dp _ (du.to (.of s8)), DT.dp _ (.tup upd_same (.cons (.str _) (.cons (.int _) .nil))), sh_si (by decide +kernel), sh_si (by decide +kernel), ?_⟩
    rw [SeqAt.eqv_refl _ (SeqAt.canLay_of_shaped (sh_si (by decide +kernel)))]
    refine ⟨_, rfl, if_no rfl ?_⟩
    obtain ⟨H8, eH8⟩ : ∃ X, X = upd H7 t2 (.tup [.str "size", .int (-far)]) := ⟨_, rfl⟩
    rw [← eH8] at s8
    rw [← eH8]
    have s58 : Same H5 H8 := s56.trans (s7.trans s8)
    refine ⟨_, rfl, _, rfl, _, rfl, sz3, fun t3 ht3 => ⟨sz1, fun L3 hL3 => ?_⟩⟩
    obtain ⟨H9, eH9⟩ : ∃ X, X = upd (upd H8 t3 (.tup [.str o, .int 0, .int 1])) L3 (.lst [.ref t3]) := ⟨_, rfl⟩
    have s89 : Same H8 H9 := by rw [eH9]; exact Same.new _ (Same.new _ (Same.refl H8) ht3) hL3
    have g9 : DTs H9 [.ref t3] ([(o, 0, 1)].map gvD) := by
      rw [eH9]
      exact .cons (.tup (Same.new _ (Same.refl _) hL3 _ _ upd_same) (.cons (.str _) (.cons (.int _) (.cons (.int _) .nil)))) .nil
    have eL9 : H9 L3 = some (.lst [.ref t3]) := by rw [eH9]; exact upd_same
    rw [← eH9]
    have s59 := s58.trans s89
    refine ⟨.ref pw, [wide], far, L3, _, [(o, 0, 1)], "a", rfl, obw5.same s59, okw, .inl (SqL.of eL9), g9, (by show 1 ≤ 1000; decide), fun g hg => (by rw [List.mem_singleton.mp hg]; exact lo), la, fun u2 HA sA du2 => ?_⟩
    have wt := wide_tot (n := far) (by omega)
    have e2 : refD [wide] far [(o, 0, 1)] "a" = .tuple [.str "long", .int (3 * far)] := by
      unfold refD
      rw [if_neg (fun z => z ⟨by omega, by unfold TOP; omega⟩), if_pos (by omega), wt]
    rw [e2] at du2
    refine ⟨_, rfl, _, _, rfl, rfl, .inl ⟨by omega, by omega⟩, sz2, fun t4 ht4 => ?_⟩
    have sB := Same.new (.tup [.str "long", .int (3 * far)]) (Same.refl HA) ht4
    refine ⟨_, _, DT.dp _ (du2.to (.of sB)), DT.dp _ (.tup upd_same (.cons (.str _) (.cons (.int _) .nil))), sh_si (by decide +kernel), sh_si (by decide +kernel), ?_⟩
    rw [SeqAt.eqv_refl _ (SeqAt.canLay_of_shaped (sh_si (by decide +kernel)))]
    refine ⟨_, rfl, if_no rfl ?_⟩
    obtain ⟨HB, eHB⟩ : ∃ X, X = upd HA t4 (.tup [.str "long", .int (3 * far)]) := ⟨_, rfl⟩
    rw [← eHB] at sB
    rw [← eHB]
    have s5B : Same H5 HB := s59.trans (sA.trans sB)
    refine ⟨_, rfl, _, rfl, sz3, fun t5 ht5 => ⟨_, rfl, sz3, fun t6 ht6 => ⟨sz2, fun L4 hL4 => ?_⟩⟩⟩
    obtain ⟨HC, eHC⟩ : ∃ X, X = upd (upd (upd HB t5 (.tup [.str "a", .int 0, .int 1])) t6 (.tup [.str o, .int 0, .int 1])) L4 (.lst [.ref t5, .ref t6]) := ⟨_, rfl⟩
    have sBC : Same HB HC := by rw [eHC]; exact Same.new _ (Same.new _ (Same.new _ (Same.refl HB) ht5) ht6) hL4
    have gC : DTs HC [.ref t5, .ref t6] (([("a", 0, 1), (o, 0, 1)] : List Gv).map gvD) := by
      rw [eHC]
      have q := Same.new (.lst [.ref t5, .ref t6]) (Same.refl _) hL4
      exact .cons (.tup (q _ _ (Same.new _ (Same.refl _) ht6 _ _ upd_same)) (.cons (.str _) (.cons (.int _) (.cons (.int _) .nil)))) (.cons (.tup (q _ _ upd_same) (.cons (.str _) (.cons (.int _) (.cons (.int _) .nil)))) .nil)
    have eLC : HC L4 = some (.lst [.ref t5, .ref t6]) := by rw [eHC]; exact upd_same
    rw [← eHC]
    have s5C := s5B.trans sBC
    refine ⟨v, ls, n, L4, _, [("a", 0, 1), (o, 0, 1)], "a", rfl, ob5.same s5C, ok, .inl (SqL.of eLC), gC, (by show 2 ≤ 1000; decide), fun g hg => ?_, la, fun u3 HD sD du3 => ?_⟩
    · simp only [List.mem_cons, List.not_mem_nil, or_false] at hg
      rcases hg with rfl | rfl
      · exact la
      · exact lo
    have e3 : refD ls n [("a", 0, 1), (o, 0, 1)] "a" = .tuple [.str "name", .str o] := by
      unfold refD
      rw [if_neg (fun z => z ⟨n0, n1⟩), if_neg (by omega), gbad2 no]
    rw [e3] at du3
    refine ⟨_, rfl, sz2, fun t7 ht7 => ?_⟩
    have sE := Same.new (.tup [.str "name", .str o]) (Same.refl HD) ht7
    refine ⟨_, _, DT.dp _ (du3.to (.of sE)), DT.dp _ (.tup upd_same (.cons (.str _) (.cons (.str _) .nil))), sh_ss sa so, sh_ss sa so, ?_⟩
    rw [SeqAt.eqv_refl _ (SeqAt.canLay_of_shaped (sh_ss sa so))]
    refine ⟨_, rfl, if_no rfl ?_⟩
    obtain ⟨HE, eHE⟩ : ∃ X, X = upd HD t7 (.tup [.str "name", .str o]) := ⟨_, rfl⟩
    rw [← eHE] at sE
    rw [← eHE]
    have s5E : Same H5 HE := s5C.trans (sD.trans sE)
    refine ⟨_, rfl, _, rfl, Nat.zero_le _, fun L5 hL5 => ?_⟩
    have sF := Same.new (.lst []) (Same.refl HE) hL5
    have s5F := s5E.trans sF
    refine ⟨_, rfl, v, ls, n, L5, [], [], o, rfl, ob5.same s5F, ok, .inl (SqL.of upd_same), .nil, Nat.zero_le _, (fun _ h => (List.not_mem_nil h).elim), lo, fun u4 HG sG du4 => ?_⟩
    have e4 : refD ls n [] o = .tuple [.str "name", .str o] := by
      unfold refD
      rw [if_neg (fun z => z ⟨n0, n1⟩), if_neg (by omega)]
      show (if isName o = false then PyData.tuple [.str "name", .str o] else _) = _
      rw [if_pos no]
    rw [e4] at du4
    refine ⟨_, rfl, sz2, fun t8 ht8 => ?_⟩
    have sI := Same.new (.tup [.str "name", .str o]) (Same.refl HG) ht8
    refine ⟨_, _, DT.dp _ (du4.to (.of sI)), DT.dp _ (.tup upd_same (.cons (.str _) (.cons (.str _) .nil))), sh_ss sa so, sh_ss sa so, ?_⟩
    rw [SeqAt.eqv_refl _ (SeqAt.canLay_of_shaped (sh_ss sa so))]
    refine ⟨_, rfl, iteT ?_⟩
    obtain ⟨HI, eHI⟩ : ∃ X, X = upd HG t8 (.tup [.str "name", .str o]) := ⟨_, rfl⟩
    rw [← eHI] at sI
    rw [← eHI]
    have s5I : Same H5 HI := s5F.trans (sG.trans sI)
    refine ⟨_, rfl, _, rfl, sz3, fun t9 ht9 => ⟨sz1, fun L6 hL6 => ?_⟩⟩
    obtain ⟨HJ, eHJ⟩ : ∃ X, X = upd (upd HI t9 (.tup [.str "q", .int 0, .int 7])) L6 (.lst [.ref t9]) := ⟨_, rfl⟩
    have sIJ : Same HI HJ := by rw [eHJ]; exact Same.new _ (Same.new _ (Same.refl HI) ht9) hL6
    have gJ : DTs HJ [.ref t9] (([("q", 0, 7)] : List Gv).map gvD) := by
      rw [eHJ]
      exact .cons (.tup (Same.new _ (Same.refl _) hL6 _ _ upd_same) (.cons (.str _) (.cons (.int _) (.cons (.int _) .nil)))) .nil
    have eLJ : HJ L6 = some (.lst [.ref t9]) := by rw [eHJ]; exact upd_same
    rw [← eHJ]
    have s5J := s5I.trans sIJ
    have lq : ("q" : Str).length ≤ 1000 := by decide +kernel
    refine ⟨v, ls, n, L6, _, [("q", 0, 7)], "q", rfl, ob5.same s5J, ok, .inl (SqL.of eLJ), gJ, (by show 1 ≤ 1000; decide), fun g hg => (by rw [List.mem_singleton.mp hg]; exact lq), lq, fun u5 HK sK du5 => ?_⟩
    have e5 : refD ls n [("q", 0, 7)] "q" = .int 7 := by
      unfold refD
      rw [if_neg (fun z => z ⟨n0, n1⟩), if_neg (by omega), show gBad [("q", 0, 7)] = none by decide +kernel]
      dsimp only
      rw [if_neg (by decide +kernel), show held (giv [("q", 0, 7)]) "q" 0 = 7 by decide +kernel]
    rw [e5] at du5
    cases du5
    have kZ : Keep p H HK := kC.trans (Keep.of (s5J.trans sK))
    refine ⟨rfl, kk _ ((hP5.same (s5J.trans sK)).mono (by omega)) kZ⟩
end
end K28
set_option maxHeartbeats 4000000
namespace K28
open PySem PySem.Spec PyProof.Rows L2 Z
def shW (c : Nat) (w : W3) : W3 := (w.1 + (c : Int), w.2)
section
variable {ls ls' : List LpM} {l : LpM} {n : Int} {c j m : Nat}
theorem w1_sh {i : Int} {k : Nat} : w1 l n (c + j) i k = (w1 l n j i k).map (shW c) := by
  unfold w1
  split
  · split
    · show [_] = [_]
      unfold shW
      rw [show ((c + j : Nat) : Int) = (j : Int) + (c : Int) by omega]
    · rfl
  · rfl
theorem wS_sh {i : Int} : wS l n (c + j) i m = (wS l n j i m).map (shW c) := by
  unfold wS
  rw [List.map_flatMap, List.flatMap_def, List.flatMap_def, List.map_congr_left fun k _ => w1_sh]
theorem wC_sh : wC l n (c + j) m = (wC l n j m).map (shW c) := by
  unfold wC
  rw [List.map_flatMap, List.flatMap_def, List.flatMap_def, List.map_congr_left fun k _ => wS_sh]
theorem works_split (h : c ≤ ls.length) : works ls n = works (ls.take c) n ++ (works (ls.drop c) n).map (shW c) := by
  have e : ls.length = c + (ls.drop c).length := by rw [List.length_drop]; omega
  have e2 : (ls.take c).length = c := by rw [List.length_take]; omega
  unfold works wA
  rw [e2]
  rw [e, List.range_add, List.flatMap_append, List.flatMap_map, List.map_flatMap]
  congr 1
  · rw [List.flatMap_def, List.flatMap_def]
    congr 1
    refine List.map_congr_left fun j hj => ?_
    have hj : j < c := List.mem_range.mp hj
    rw [List.getElem?_take, if_pos hj]
  · rw [List.flatMap_def, List.flatMap_def, List.length_drop]
    congr 1
    refine List.map_congr_left fun j hj => ?_
    rw [List.getElem?_drop]
    cases ls[c + j]? with
    | none => rfl
    | some l => exact wC_sh
theorem stAt_drop {w : W3} (h : 0 ≤ w.1) : stAt ls (shW c w) = stAt (ls.drop c) w := by
  unfold stAt shW
  rw [List.getElem?_drop, show (w.1 + (c : Int)).toNat = c + w.1.toNat by omega]
theorem stAt_take {w : W3} (h : w.1.toNat < c) : stAt (ls.take c) w = stAt ls w := by
  unfold stAt
  rw [List.getElem?_take, if_pos h]
theorem ran_same {ws : List W3} (h : ∀ w ∈ ws, stAt ls w = stAt ls' w) (f : Sto) : ran ls n ws f = ran ls' n ws f := by
  unfold ran
  induction ws generalizing f with
  | nil => rfl
  | cons w ws ih =>
    rw [List.foldl_cons, List.foldl_cons]
    have e : wStep ls n f w = wStep ls' n f w := by
      unfold wStep
      rw [h w List.mem_cons_self]
    rw [e]
    exact ih (fun w hw => h w (List.mem_cons_of_mem _ hw)) _
theorem ran_drop {ws : List W3} (h : ∀ w ∈ ws, 0 ≤ w.1) (f : Sto) : ran ls n (ws.map (shW c)) f = ran (ls.drop c) n ws f := by
  unfold ran
  induction ws generalizing f with
  | nil => rfl
  | cons w ws ih =>
    rw [List.map_cons, List.foldl_cons, List.foldl_cons]
    have e : wStep ls n f (shW c w) = wStep (ls.drop c) n f w := by
      unfold wStep
      rw [stAt_drop (h w List.mem_cons_self)]
      rfl
    rw [e]
    exact ih (fun w hw => h w (List.mem_cons_of_mem _ hw)) _
theorem ran_split (h : c ≤ ls.length) (f : Sto) : ran ls n (works ls n) f = ran (ls.drop c) n (works (ls.drop c) n) (ran (ls.take c) n (works (ls.take c) n) f) := by
  rw [works_split h]
  have e : ∀ a b : List W3, ran ls n (a ++ b) f = ran ls n b (ran ls n a f) := fun a b => List.foldl_append
  have q1 : ∀ w ∈ works (ls.drop c) n, 0 ≤ w.1 := fun w hw => by
    obtain ⟨j, q, l, s, hj, _⟩ := works_mem hw
    rw [hj]
    exact Int.natCast_nonneg j
  have q2 : ∀ w ∈ works (ls.take c) n, stAt ls w = stAt (ls.take c) w := fun w hw => by
    obtain ⟨j, q, l, s, hj, _, hl, _⟩ := works_mem hw
    refine (stAt_take ?_).symm
    rw [hj, Int.toNat_natCast]
    have := (List.getElem?_eq_some_iff.mp hl).1
    rw [List.length_take] at this
    omega
  rw [e, ran_drop q1, ran_same q2]
def cellAt (ls : List LpM) (n : Int) (w : W3) : Cell := match stAt ls w with
  | some s => cellOf s w.2.1 n
  | none => ("", 0)
theorem ran_dom {x : Str} {i : Int} {ws : List W3} {f : Sto} (h : ran ls n ws f x i ≠ none) : f x i ≠ none ∨ ∃ w ∈ ws, ∃ s, stAt ls w = some s ∧ cellOf s w.2.1 n = (x, i) := by
  unfold ran at h
  induction ws generalizing f with
  | nil => exact .inl h
  | cons w ws ih =>
    rw [List.foldl_cons] at h
    rcases ih h with q | ⟨w2, m2, s, e⟩
    · unfold wStep at q
      cases e : stAt ls w with
      | none =>
        rw [e] at q
        exact .inl q
      | some s =>
        rw [e] at q
        dsimp only at q
        unfold sPut at q
        by_cases z : x = (cellOf s w.2.1 n).1 ∧ i = (cellOf s w.2.1 n).2
        · exact .inr ⟨w, List.mem_cons_self, s, e, by rw [z.1, z.2]⟩
        · rw [if_neg z] at q
          exact .inl q
    · exact .inr ⟨w2, List.mem_cons_of_mem _ m2, s, e⟩
def ModF (f : Sto) : Prop := ∀ x i v, f x i = some v → v.fmod 1000003 = v
theorem fmod_fmod (a : Int) : (a.fmod 1000003).fmod 1000003 = a.fmod 1000003 := by
  have h0 := Int.fmod_nonneg_of_pos a (by decide : (0 : Int) < 1000003)
  have h1 := Int.fmod_lt_of_pos a (by decide : (0 : Int) < 1000003)
  exact Int.fmod_eq_of_lt h0 h1
theorem ModF.put {f : Sto} {x : Str} {i v : Int} (h : ModF f) (e : v.fmod 1000003 = v) : ModF (sPut f x i (some v)) := fun y j u hu => by
  unfold sPut at hu
  split at hu
  · cases hu
    exact e
  · exact h y j u hu
theorem giv_modF (gs : List Gv) : ModF (giv gs) := by
  unfold giv
  have : ∀ (f : Sto), ModF f → ModF (gs.foldl gPut f) := by
    induction gs with
    | nil => exact fun f h => h
    | cons g gs ih => exact fun f h => ih _ (ModF.put h (fmod_fmod _))
  exact this _ fun _ _ _ h => by cases h
theorem ran_modF {ws : List W3} {f : Sto} (h : ModF f) : ModF (ran ls n ws f) := by
  unfold ran
  induction ws generalizing f with
  | nil => exact h
  | cons w ws ih =>
    rw [List.foldl_cons]
    refine ih ?_
    unfold wStep
    split
    · refine h.put ?_
      unfold wVal
      exact fmod_fmod _
    · exact h
end
theorem giv_hit {f : Sto} (m : ModF f) {x : Str} {i : Int} : ∀ (gs : List Gv) (f0 : Sto), (∀ g ∈ gs, f g.1 g.2.1 = some g.2.2) → (f0 x i = f x i ∨ ∃ g ∈ gs, g.1 = x ∧ g.2.1 = i) → gs.foldl gPut f0 x i = f x i
  | [], f0, _, h => by
    rcases h with h | ⟨g, hg, _⟩
    · exact h
    · exact (List.not_mem_nil hg).elim
  | g :: gs, f0, hf, h => by
    rw [List.foldl_cons]
    refine giv_hit m gs _ (fun g hg => hf g (List.mem_cons_of_mem _ hg)) ?_
    by_cases z : x = g.1 ∧ i = g.2.1
    · refine .inl ?_
      unfold gPut sPut
      rw [if_pos z, z.1, z.2, hf g List.mem_cons_self, m _ _ _ (hf g List.mem_cons_self)]
    · have e : gPut f0 g x i = f0 x i := by
        unfold gPut sPut
        rw [if_neg z]
      rw [e]
      rcases h with h | ⟨g2, hg, q1, q2⟩
      · exact .inl h
      · rcases List.mem_cons.mp hg with q | q
        · exact absurd ⟨by rw [← q, q1], by rw [← q, q2]⟩ z
        · exact .inr ⟨g2, q, q1, q2⟩
theorem giv_left {f : Sto} (m : ModF f) {gs : List Gv} (h1 : ∀ g ∈ gs, f g.1 g.2.1 = some g.2.2) (h2 : ∀ x i, f x i ≠ none → ∃ g ∈ gs, g.1 = x ∧ g.2.1 = i) : giv gs = f := by
  funext x i
  refine giv_hit m gs _ h1 ?_
  cases e : f x i with
  | none => exact .inl rfl
  | some v => exact .inr (h2 x i (by rw [e]; exact fun z => by cases z))
theorem giv_dom0 {x : Str} {i : Int} : ∀ (gs : List Gv) (f : Sto), gs.foldl gPut f x i ≠ none → f x i ≠ none ∨ ∃ g ∈ gs, g.1 = x ∧ g.2.1 = i
  | [], _, h => .inl h
  | g :: gs, f, h => by
    rw [List.foldl_cons] at h
    rcases giv_dom0 gs _ h with q | ⟨g2, hg, q⟩
    · unfold gPut sPut at q
      by_cases z : x = g.1 ∧ i = g.2.1
      · exact .inr ⟨g, List.mem_cons_self, z.1.symm, z.2.symm⟩
      · rw [if_neg z] at q
        exact .inl q
    · exact .inr ⟨g2, List.mem_cons_of_mem _ hg, q⟩
theorem giv_dom {gs : List Gv} {x : Str} {i : Int} (h : giv gs x i ≠ none) : ∃ g ∈ gs, g.1 = x ∧ g.2.1 = i := by
  rcases giv_dom0 gs _ h with q | q
  · exact absurd rfl q
  · exact q
theorem nodup_le {α : Type} [DecidableEq α] : ∀ {l m : List α}, l.Nodup → (∀ a ∈ l, a ∈ m) → l.length ≤ m.length
  | [], _, _, _ => Nat.zero_le _
  | a :: l, m, h, s => by
    have h1 := List.nodup_cons.mp h
    have ha := s a List.mem_cons_self
    have q := nodup_le (m := m.erase a) h1.2 fun b hb => (List.mem_erase_of_ne (fun z => h1.1 (by rw [← z]; exact hb))).mpr (s b (List.mem_cons_of_mem _ hb))
    rw [List.length_erase_of_mem ha] at q
    have := List.length_pos_of_mem ha
    rw [List.length_cons]
    omega
theorem gbad_none {gs : List Gv} (h : ∀ g ∈ gs, isName g.1 = true) : gBad gs = none := by
  unfold gBad
  rw [List.find?_eq_none.mpr fun g hg => by rw [h g hg]; decide]
  rfl
/-- what a run left, told: no more cells than were given and written -/
theorem cells_few {ls : List LpM} {n : Int} {ws : List W3} {gs L : List Gv} (h : (L.map fun g => ((g.1, g.2.1) : Cell)).Nodup) (h2 : ∀ g ∈ L, ran ls n ws (giv gs) g.1 g.2.1 ≠ none) : L.length ≤ gs.length + ws.length := by
  have q := nodup_le (m := (gs.map fun g => ((g.1, g.2.1) : Cell)) ++ ws.map (cellAt ls n)) h fun c hc => by
    obtain ⟨g, hg, rfl⟩ := List.mem_map.mp hc
    rcases ran_dom (h2 g hg) with q | ⟨w, hw, s, e1, e2⟩
    · obtain ⟨g2, hg2, e1, e2⟩ := giv_dom q
      exact List.mem_append_left _ (List.mem_map.mpr ⟨g2, hg2, by rw [e1, e2]⟩)
    · refine List.mem_append_right _ (List.mem_map.mpr ⟨w, hw, ?_⟩)
      unfold cellAt
      rw [e1]
      exact e2
  rw [List.length_map, List.length_append, List.length_map, List.length_map] at q
  exact q
theorem mem_nms {ls : List LpM} {l : LpM} {s : StM} (hl : l ∈ ls) (hs : s ∈ l.sts) : s.x ∈ nms ls := by
  unfold nms
  refine List.mem_flatten.mpr ⟨_, List.mem_map.mpr ⟨l, hl, rfl⟩, List.mem_flatten.mpr ⟨_, List.mem_map.mpr ⟨s, hs, rfl⟩, List.mem_cons_self⟩⟩
theorem nms_name {ls : List LpM} (ok : ∀ l ∈ ls, LpOk l) {x : Str} (h : x ∈ nms ls) : isName x = true := by
  unfold nms at h
  obtain ⟨_, h1, h2⟩ := List.mem_flatten.mp h
  obtain ⟨l, hl, rfl⟩ := List.mem_map.mp h1
  obtain ⟨_, h3, h4⟩ := List.mem_flatten.mp h2
  obtain ⟨s, hs, rfl⟩ := List.mem_map.mp h3
  obtain ⟨_, _, _, _, _, _, _, _, _, _, _, _, _, _, _, _, _, okS⟩ := ok l hl
  obtain ⟨q1, _, _, _, _, _, q2, _⟩ := okS s hs
  rcases List.mem_cons.mp h4 with rfl | h5
  · exact q1.1
  · obtain ⟨r, hr, rfl⟩ := List.mem_map.mp h5
    exact (q2 r hr).1.1
/-- what is held behind a run is of the program's arrays, where what was given is -/
theorem ran_nms {ls : List LpM} {n : Int} {ws : List W3} {gs : List Gv} (hg : ∀ g ∈ gs, g.1 ∈ nms ls) {c : Nat} {x : Str} {i : Int} (h : ran (ls.take c) n ws (giv gs) x i ≠ none) : x ∈ nms ls := by
  rcases ran_dom h with q | ⟨w, _, s, e1, e2⟩
  · obtain ⟨g, m, rfl, _⟩ := giv_dom q
    exact hg g m
  · unfold stAt at e1
    obtain ⟨l, hl, hs⟩ := Option.bind_eq_some_iff.mp e1
    have : s.x = x := congrArg Prod.fst e2
    rw [← this]
    exact mem_nms (List.take_subset _ _ (List.mem_of_getElem? hl)) (List.mem_of_getElem? hs)
/-- what a run left, told name by name -/
structure LeftOk (f : Sto) (zs : List Str) (L : List Gv) : Prop where
  told : ∀ g ∈ L, f g.1 g.2.1 = some g.2.2 ∧ g.1 ∈ zs
  all : ∀ y ∈ zs, ∀ i, f y i ≠ none → ∃ g ∈ L, g.1 = y ∧ g.2.1 = i
  one : (L.map fun g => ((g.1, g.2.1) : Cell)).Nodup
theorem LeftOk.nil {f : Sto} : LeftOk f [] [] := ⟨fun _ h => (List.not_mem_nil h).elim, fun _ h => (List.not_mem_nil h).elim, List.nodup_nil⟩
theorem LeftOk.snoc {f : Sto} {zs : List Str} {L : List Gv} {y : Str} {ks : List Int} (h : LeftOk f zs L) (ny : y ∉ zs) (nd : ks.Nodup) (mem : ∀ i, i ∈ ks ↔ f y i ≠ none) : LeftOk f (zs ++ [y]) (L ++ ks.map fun i => (y, i, (f y i).getD 0)) := by
  refine ⟨fun g hg => ?_, fun z hz i hi => ?_, ?_⟩
  · rcases List.mem_append.mp hg with q | q
    · exact ⟨(h.told g q).1, List.mem_append_left _ (h.told g q).2⟩
    · obtain ⟨i, hi, rfl⟩ := List.mem_map.mp q
      refine ⟨?_, List.mem_append_right _ (List.mem_singleton.mpr rfl)⟩
      have := (mem i).mp hi
      cases e : f y i with
      | none => exact absurd e this
      | some v => rfl
  · rcases List.mem_append.mp hz with q | q
    · obtain ⟨g, hg, e⟩ := h.all z q i hi
      exact ⟨g, List.mem_append_left _ hg, e⟩
    · rw [List.mem_singleton.mp q] at hi ⊢
      exact ⟨_, List.mem_append_right _ (List.mem_map.mpr ⟨i, (mem i).mpr hi, rfl⟩), rfl, rfl⟩
  · rw [List.map_append, List.map_map]
    refine List.nodup_append.mpr ⟨h.one, ?_, fun a ha b hb e => ?_⟩
    · have : ((fun g => ((g.1, g.2.1) : Cell)) ∘ fun i => ((y, i, (f y i).getD 0) : Gv)) = fun i => ((y, i) : Cell) := rfl
      rw [this]
      exact List.Pairwise.map _ (fun a b q z => q (congrArg Prod.snd z)) nd
    · obtain ⟨g, hg, rfl⟩ := List.mem_map.mp ha
      obtain ⟨i, hi, rfl⟩ := List.mem_map.mp hb
      have := (h.told g hg).2
      have e1 : g.1 = y := congrArg Prod.fst e
      exact ny (by rw [← e1]; exact this)
end K28
set_option maxHeartbeats 4000000
namespace K28
open PySem PySem.Spec PyProof.Rows L2 Z
def spLaw (K : PySem.W.Frag) : Sp := fun vs H Q _ => ∃ (a : Addr) (ns : List Int), vs = [.ref a] ∧ SqL K H a (ns.map V.int) ∧ ns.length ≤ 63 ∧ ∀ H', Q (.bl true) H'
theorem PrObA.ms {K : PySem.W.Frag} {H H' : Hp} {v : V} {ls : List LpM} (h : PrObA K H v ls) (s : MS H H') : PrObA K H' v ls := by
  obtain ⟨p, xs, ys, e, ⟨dx, l, a, d, h1, h2, h3⟩, h4, h5⟩ := h
  exact ⟨p, xs, ys, e, ⟨dx, l, a, d, s _ _ h1 rfl, s.sqT h2, s.sqT h3⟩, h4.imp fun _ _ z => z.ms s, h5⟩
theorem tot_small {ls : List LpM} {n : Int} (ok : ∀ l ∈ ls, LpOk l) (n0 : 0 ≤ n) (n8 : n ≤ 8) : tot ls n ≤ (ls.length : Int) * 60 := by
  unfold tot
  induction ls with
  | nil => exact Int.le_refl _
  | cons l ls ih =>
    rw [List.map_cons, List.sum_cons, List.length_cons]
    have h := lpCs_len (ok l List.mem_cons_self) n0 n8
    have h2 := ih fun l hl => ok l (List.mem_cons_of_mem _ hl)
    omega
theorem none_back {H H' : Hp} (s : Same H H') {b : Addr} (e : H' b = none) : H b = none := by
  cases z : H b with
  | none => rfl
  | some o =>
    rw [s b o z] at e
    cases e
theorem ruf_no {m : Int} {c : Addr} {x : Str} (h1 : ¬ x = "many_works") (h2 : ¬ x = "cells") : (ruf m c).lookup x = none := by
  unfold ruf
  rw [lookup_putF, if_neg h2, lookup_putF, if_neg h1]
  rfl
theorem RunAt.lock {P : Addr → Prop} {K : PySem.W.Frag} {H : Hp} {r L : Addr} {m : Int} {f : Sto} {N : Nat} {kvs : List (List Key × V)} {od : Obj} (h : RunAt K P H r m f N) (hL : H L = some (.dT kvs)) : RunAt K P (upd H L (.frz od (.dT kvs))) r m f N := by
  obtain ⟨dx, a, h1, h2⟩ := h
  have m : MS H (upd H L (.frz od (.dT kvs))) := .updT hL
  refine ⟨dx, a, m _ _ h1 rfl, h2.dk fun b q e => ?_⟩
  rw [upd_ne (fun z => by
    rw [z, hL] at e
    cases e)]
  exact e
theorem RunAt.ins {P : Addr → Prop} {K : PySem.W.Frag} {H : Hp} {r : Addr} {m : Int} {f : Sto} {N : Nat} (h : RunAt K P H r m f N) : ∃ dx a, H r = some (.ins (CRu K) dx (ruf m a)) := by
  obtain ⟨dx, a, h1, _⟩ := h
  exact ⟨dx, a, h1⟩
theorem prf_a (l a d : Addr) : (prf l a d).lookup ("arrays" : Str) = some (.ref a) := by
  unfold prf prf2
  rw [lookup_putF, if_neg (by decide +kernel), lookup_putF, if_pos rfl]
theorem Fa.take {α : Type} {R : V → α → Prop} {vs : List V} {ms : List α} (h : Fa R vs ms) (c : Nat) : Fa R (vs.take c) (ms.take c) := by
  refine ⟨by rw [List.length_take, List.length_take, h.1], fun i v m a b => ?_⟩
  rw [List.getElem?_take] at a b
  split at a
  · rename_i q
    rw [if_pos q] at b
    exact h.2 i v m a b
  · cases a
theorem Fa.drop {α : Type} {R : V → α → Prop} {vs : List V} {ms : List α} (h : Fa R vs ms) (c : Nat) : Fa R (vs.drop c) (ms.drop c) := by
  refine ⟨by rw [List.length_drop, List.length_drop, h.1], fun i v m a b => ?_⟩
  rw [List.getElem?_drop] at a b
  exact h.2 _ v m a b
theorem slice_take {K : PySem.W.Frag} {H : Hp} {l : Addr} {xs : List V} {c : Nat} {Q : VK} (sq : SqT K H l xs) (hc : c ≤ xs.length) (k : ∀ q H', Same H H' → SqT K H' q (xs.take c) → Q (.ref q) H') : rSlA K (.ref l) none (some (c : Int)) H Q := by
  refine ⟨l, xs, rfl, sq, fun hw => k l H (Same.refl H) ?_, fun _ q hq => k q _ (Same.new _ (Same.refl H) hq) ?_⟩
  · have e := hw.2
    rw [HT.sIx_nat] at e
    rw [List.take_of_length_le (by omega)]
    exact sq
  · have e : cutV xs none (some (c : Int)) = xs.take c := by
      unfold cutV
      rw [HT.sIx_nat, HT.sIx_none, List.drop_zero, Nat.sub_zero, Nat.min_eq_left hc]
    rw [e]
    exact SqT.of upd_same
theorem slice_drop {K : PySem.W.Frag} {H : Hp} {l : Addr} {xs : List V} {c : Nat} {Q : VK} (sq : SqT K H l xs) (hc : c ≤ xs.length) (k : ∀ q H', Same H H' → SqT K H' q (xs.drop c) → Q (.ref q) H') : rSlA K (.ref l) (some (c : Int)) none H Q := by
  refine ⟨l, xs, rfl, sq, fun hw => k l H (Same.refl H) ?_, fun _ q hq => k q _ (Same.new _ (Same.refl H) hq) ?_⟩
  · have e := hw.1
    rw [HT.sIx_nat] at e
    have : c = 0 := by omega
    rw [this, List.drop_zero]
    exact sq
  · have e : cutV xs (some (c : Int)) none = xs.drop c := by
      unfold cutV
      rw [HT.sIx_nat, HT.sIx_none, Nat.min_eq_left hc, List.take_of_length_le (by rw [List.length_drop]; omega)]
    rw [e]
    exact SqT.of upd_same
theorem part_made {K : PySem.W.Frag} {H : Hp} {q : Addr} {ws : List V} {ls : List LpM} {Q : VK} {E : XK} (sq : SqT K H q ws) (fa : Fa (LpOb K H) ws ls) (l3 : ls.length ≤ 3) (ok : ∀ l ∈ ls, LpOk l) (k : ∀ p H', Same H H' → PrOb K H' (.ref p) ls → Q (.ref p) H') : rPr K [.ref q] H Q E := by
  refine ⟨q, ws, _, rfl, .inr sq, lpNs_of fa, ?_, Out.ok ?_ fun p ys H6 s6 h6 _ _ _ => ?_⟩
  · refine Nat.le_trans (flat_bound (n := 12) fun l hl => ?_) (by omega)
    obtain ⟨_, _, _, _, _, _, _, _, _, _, _, _, _, _, _, _, n3, okS⟩ := ok l hl
    refine Nat.le_trans (flat_bound (n := 4) fun m hm => ?_) (by omega)
    obtain ⟨_, _, _, _, lr, _⟩ := okS m hm
    rw [List.length_cons, List.length_map]
    omega
  · unfold ckM
    rw [fa.1, if_pos (by omega)]
  · exact k p _ s6 ⟨p, ws, ys, rfl, h6, fa.imp fun _ _ z => z.same s6⟩
theorem RunAt.up {P : Addr → Prop} {K : PySem.W.Frag} {H : Hp} {r : Addr} {m : Int} {f : Sto} {N N' : Nat} (h : RunAt K P H r m f N) (e : N ≤ N') : RunAt K P H r m f N' := by
  obtain ⟨dx, a, h1, h2⟩ := h
  exact ⟨dx, a, h1, h2.up e⟩
theorem RunAt.keepC {P : Addr → Prop} {K : PySem.W.Frag} {H H' : Hp} {r q pc : Addr} {m : Int} {f : Sto} {N t : Nat} (h : RunAt K P H r m f N) (hp : PenC H q pc t) (kp : Keep q H H') : RunAt K P H' r m f N := by
  obtain ⟨dx, a, h1, h2⟩ := h
  exact ⟨dx, a, MS.keep hp.pen kp _ _ h1 rfl, h2.keepC hp kp⟩
theorem dt_iv {H : Hp} {v : V} {g : Int → Option Int} {i : Int} (h : DT H v (ivD g i)) : ∃ t, v = .ref t ∧ H t = some (.tup [.int i, .int ((g i).getD 0)]) := by
  obtain ⟨t, xs, rfl, h1, d⟩ := DT.tup' h
  cases d with
  | cons a d =>
    cases d with
    | cons b d =>
      cases d
      cases a
      cases b
      exact ⟨t, rfl, h1⟩
theorem DTs.append {H : Hp} : ∀ {xs ys : List V} {ds es : List PyData}, DTs H xs ds → DTs H ys es → DTs H (xs ++ ys) (ds ++ es)
  | _, _, _, _, .nil, h => h
  | _, _, _, _, .cons a b, h => .cons a (DTs.append b h)
/-- what stands through the law -/
structure Law (K : PySem.W.Frag) (p pc r : Addr) (v : V) (gl W F : Addr) (xs ys ws fs : List V) (ls : List LpM) (gs : List Gv) (n : Int) (H : Hp) (t : Nat) : Prop where
  pen : PenC H p pc t
  rows : H r = some (.lst xs)
  prog : PrObA K H v ls
  given : H gl = some (.lst ys)
  dg : DTs H ys (gs.map gvD)
  found : Found H W F ws fs ls n (giv gs)
section
variable {K : PySem.W.Frag} {p pc r : Addr} {v : V} {gl W F : Addr} {xs ys ws fs : List V} {ls : List LpM} {gs : List Gv} {n : Int} {H H' : Hp} {t t' : Nat}
theorem Law.same (h : Law K p pc r v gl W F xs ys ws fs ls gs n H t) (s : Same H H') : Law K p pc r v gl W F xs ys ws fs ls gs n H' t :=
  ⟨h.pen.same s, s _ _ h.rows, h.prog.ms (.of s), s _ _ h.given, h.dg.to (.of s), h.found.same s⟩
theorem Law.keep (h : Law K p pc r v gl W F xs ys ws fs ls gs n H t) (k : Keep p H H') (hP : PenC H' p pc t') : Law K p pc r v gl W F xs ys ws fs ls gs n H' t' :=
  ⟨hP, h.pen.lst k h.rows, h.prog.ms (MS.keep h.pen.pen k), h.pen.lst k h.given, h.dg.keepC h.pen k, h.found.keepC h.pen k⟩
end
section
variable {P : Program} {w : World} {K : PySem.W.Frag} {mg : Str → Option Value} {base : Heap}
theorem sc_law : FnScope ["_law_script", "_law_pen_here", "_law_rows", "_law_n", "_law_program", "_law_given", "_law_turn", "_law_works_here", "_law_found", "_law_one", "_law_other", "_law_whole", "_law_cell", "_law_cut", "_law_first", "_law_left", "_law_name_here", "_law_value_here", "_law_last"] ["_law_script"] (defScope s_law) := ⟨rfl, rfl, rfl, by decide +kernel, rfl, by decide +kernel, by decide +kernel⟩
theorem ok_law {f : Addr} {fd fc fw : FuncData} (F : FnP K "law" s_law f fd) (T : LwTx K mg) (G : SrTx K) (GR : RuTx K) (MSr : MkSr P w K mg base) (MPr : MkPr P w K mg base)
    (dPen : Dn P w K mg base 1 "_law_pen" ["_law_script"] (spPen K)) (dDraw : Dn P w K mg base 1 "_law_draw" ["_law_pen_here", "_law_many"] spDrawC) (dFar : Dn P w K mg base 3 "_law_far" ["_law_pen_here"] spFar)
    (dSRows : Dn P w K mg base 5 "_law_small_rows" ["_law_pen_here", "_law_loops", "_law_most"] spSRows) (dMade : Dn P w K mg base 11 "_law_made" ["_law_rows"] (spMade K)) (dStates : Dn P w K mg base 4 "_law_states" ["_law_rows", "_law_n", "_law_given"] spStates)
    (dRefR : Dn P w K mg base 9 "_law_refusals_right" ["_law_pen_here", "_law_program", "_law_n"] (spRefR K)) (dIsAt : Dn P w K mg base 6 "_law_is_at" ["_law_stepper", "_law_works_here", "_law_found", "_law_done"] (spIsAt K))
    (dWalkR : Dn P w K mg base 7 "_law_walk_right" ["_law_pen_here", "_law_one", "_law_other", "_law_works_here", "_law_found"] (spWalk K))
    (dRunP : DxK P w K mg base 6 "run_program" ["program", "n", "start"] 2 ["start"] (fun vs zs => vs ++ zs) (spRunP K)) (dFirstD : Dn P w K mg base 3 "first_difference" ["one", "other"] (spFirstD K))
    (Fc : FnOk P w K mg base (L2.CX P w) 4 (He.ma K (CRu K) "cells_of") fc ["self", "array"] (spRuC K)) (hbc : Binds K fc ["self", "array"] []) (cc : Meth K (CRu K) "cells_of" (He.ma K (CRu K) "cells_of"))
    (Fw : FnOk P w K mg base (L2.CX P w) 5 (He.ma K (CRu K) "value_of") fw ["self", "array", "cell"] (spRuV K)) (hbw : Binds K fw ["self", "array", "cell"] []) (cw : Meth K (CRu K) "value_of" (He.ma K (CRu K) "value_of")) :
    FnOk P w K mg base CX0 12 f fd ["_law_script"] (spLaw K) := by
  refine F.ok sc_law (fun vs H Q E h => ?_) (fun cdv A outer s H vs Q E hr h => ?_)
  · obtain ⟨a, ns, rfl, _⟩ := h
    rfl
  · obtain ⟨sc, ns, rfl, hS, hl, kk⟩ := h
    have hu := hu_of hr
    refine ⟨_, PSs.nox (pss_cons (ps_set (i := 1) sc_law.nd rfl (Or.inl rfl) (pe_dn dPen hr (pa_cons (pv 0) pa_nil)))
      (pss_cons (ps_par (i := 2) (j := 3) (by rfl) sc_law.nd rfl rfl (by decide) rfl rfl (pa_cons (pe_dn dSRows hr (pa_cons (pv 1) (pa_cons (pe_op op_add pe_int (pe_dn dDraw hr (pa_cons (pv 1) (pa_cons pe_int pa_nil)))) (pa_cons pe_int pa_nil)))) (pa_cons (pe_dn dDraw hr (pa_cons (pv 1) (pa_cons pe_int pa_nil))) pa_nil)) (by rfl))
      (pss_cons (ps_par (i := 4) (j := 5) (by rfl) sc_law.nd rfl rfl (by decide) rfl rfl (pa_cons (pe_dn dMade hr (pa_cons (pv 2) pa_nil)) (pa_cons (pe_lst pa_nil) pa_nil)) (by rfl))
      (pss_cons (ps_for PassesOwn.never rfl (pi_range1 (by rfl) T.range (pa_cons (pe_dn dDraw hr (pa_cons (pv 1) (pa_cons pe_int pa_nil))) pa_nil)) (pg_name (i := 6) sc_law.nd rfl (.inl rfl)) (pss_one (ps_expr (pe_bm PySem.F.plainAttrs_list PySem.F.slot_list_append PySem.F.type_list_append mt_append (pv 5) (pa_cons (pe_tup (pa_cons (pe_ix (ix_tupK (K := K) rfl) (pe_ix (ix_tupK (K := K) rfl) (pe_ix (ix_tupK (K := K) rfl) (pe_ix ix_list (pv 2) pe_int (fun _ _ => rfl)) pe_int (fun _ _ => rfl)) pe_int (fun _ _ => rfl)) pe_int (fun _ _ => rfl)) (pa_cons (pe_op op_sub (pe_dn dDraw hr (pa_cons (pv 1) (pa_cons pe_int pa_nil))) pe_int) (pa_cons (pe_dn dFar hr (pa_cons (pv 1) pa_nil)) pa_nil)))) pa_nil)))))
      (pss_cons (ps_asg (pe_dn dStates hr (pa_cons (pv 2) (pa_cons (pv 3) (pa_cons (pv 5) pa_nil)))) (pg_tup (by rfl) (pgs_cons (pg_name (i := 7) sc_law.nd rfl (.inl rfl)) (pgs_cons (pg_name (i := 8) sc_law.nd rfl (.inl rfl)) pgs_nil))))
      (pss_cons (ps_if (pt_not (pt_val (pe_dn dRefR hr (pa_cons (pv 1) (pa_cons (pv 4) (pa_cons (pv 3) pa_nil)))))) (pss_one (ps_ret pe_bl)) pss_nil)
      (pss_cons (ps_par (i := 9) (j := 10) (by rfl) sc_law.nd rfl rfl (by decide) rfl rfl (pa_cons (pe_SrK (K := K) MSr rfl hr at_E0 (pa_cons (pv 4) (pa_cons (pv 3) pa_nil)) (pk_cons (pv 5) pk_nil)) (pa_cons (pe_SrK (K := K) MSr rfl hr at_E0 (pa_cons (pv 4) (pa_cons (pv 3) pa_nil)) (pk_cons (pv 5) pk_nil)) pa_nil)) (by rfl))
      (pss_cons (ps_if (PW.pt (pw_or (pt_not (pt_val (pe_dn dIsAt hr (pa_cons (pv 9) (pa_cons (pv 7) (pa_cons (pv 8) (pa_cons pe_int pa_nil))))))) (pw_or1 (pt_not (pt_val (pe_dn dWalkR hr (pa_cons (pv 1) (pa_cons (pv 9) (pa_cons (pv 10) (pa_cons (pv 7) (pa_cons (pv 8) pa_nil))))))))))) (pss_one (ps_ret pe_bl)) pss_nil)
      (pss_cons (ps_set (i := 11) sc_law.nd rfl (Or.inl rfl) (pe_dxK (K := K) dRunP rfl hr at_E0 (pa_cons (pv 4) (pa_cons (pv 3) pa_nil)) (pk_cons (pv 5) pk_nil)))
      (pss_cons (ps_lock (ps_for PassesOwn.never rfl (pi_keys (pe_ix ix_list (pv 8) (pe_un un_neg pe_int) (fun _ _ => rfl))) (pg_name (i := 12) sc_law.nd rfl (.inl rfl)) (pss_one (ps_if (pt_cmpR op_ne (pe_methX (K := K) rfl at_E0 (pv 11) GR.cl cw Fw (hr.mono (by decide)) hbw (pa_cons (pe_ix (ix_tupK (K := K) rfl) (pv 12) pe_int (fun _ _ => rfl)) (pa_cons (pe_ix (ix_tupK (K := K) rfl) (pv 12) pe_int (fun _ _ => rfl)) pa_nil))) (pe_dget hu (pe_ix ix_list (pv 8) (pe_un un_neg pe_int) (fun _ _ => rfl)) (pv 12) (fun _ _ => rfl)) (nomark _)) (pss_one (ps_ret pe_bl)) pss_nil))))
      (pss_cons (ps_set (i := 13) sc_law.nd rfl (Or.inl rfl) (pe_dn dDraw hr (pa_cons (pv 1) (pa_cons (pe_op op_add (pe_callB call_len_seq (by rfl) T.len PySem.boot_len (pa_cons (pv 2) pa_nil)) pe_int) pa_nil))))
      (pss_cons (ps_set (i := 14) sc_law.nd rfl (Or.inl rfl) (pe_dxK (K := K) dRunP rfl hr at_E0 (pa_cons (pe_PrP (K := K) MPr rfl hr at_E0 (pa_cons (pe_slice sl_tupA (pe_fldK (K := K) rfl (pv 4)) po_none (po_some (pv 13))) pa_nil)) (pa_cons (pv 3) pa_nil)) (pk_cons (pv 5) pk_nil)))
      (pss_cons (ps_set (i := 15) sc_law.nd rfl (Or.inl rfl) (pe_lst pa_nil))
      (pss_cons (ps_for PassesOwn.never rfl (pi_tup (pe_fldK (K := K) rfl (pv 4))) (pg_name (i := 16) sc_law.nd rfl (.inr rfl)) (pss_one (ps_set (i := 15) sc_law.nd rfl (Or.inl rfl) (pe_op op_cat (pv 15) (pe_lc (own := [("_law_cell", 12), ("_law_value_here", 17)]) (tt := tYes) rfl sc_law.nd (pi_tup (pe_methX (K := K) rfl at_E0 (pv 14) GR.cl cc Fc (hr.mono (by decide)) hbc (pa_cons (pv 16) pa_nil))) (blkOk_by (N := ["_law_script", "_law_pen_here", "_law_rows", "_law_n", "_law_program", "_law_given", "_law_turn", "_law_works_here", "_law_found", "_law_one", "_law_other", "_law_whole", "_law_cell", "_law_cut", "_law_first", "_law_left", "_law_name_here", "_law_value_here", "_law_last"]) (sc := defScope s_law) (by decide +kernel)) (fun _ _ _ _ _ => (pg_tupK (K := K) (n := 2) rfl rfl (pgs_cons (pg_name (i := 12) sc_law.nd rfl (.inl rfl)) (pgs_cons (pg_name (i := 17) sc_law.nd rfl (.inl rfl)) pgs_nil)))) (fun _ _ _ _ _ => pts_nil) (fun _ _ _ _ _ => (pe_tup (pa_cons (pv 16) (pa_cons (pv 12) (pa_cons (pv 17) pa_nil))))))))))
      (pss_cons (ps_set (i := 18) sc_law.nd rfl (Or.inl rfl) (pe_dxK (K := K) dRunP rfl hr at_E0 (pa_cons (pe_PrP (K := K) MPr rfl hr at_E0 (pa_cons (pe_slice sl_tupA (pe_fldK (K := K) rfl (pv 4)) (po_some (pv 13)) po_none) pa_nil)) (pa_cons (pv 3) pa_nil)) (pk_cons (pv 15) pk_nil)))
      (pss_cons (ps_if (pt_cmpR op_ne (pe_op op_add (pe_fldK (K := K) rfl (pv 14)) (pe_fldK (K := K) rfl (pv 18))) (pe_callB call_len_seq (by rfl) T.len PySem.boot_len (pa_cons (pv 7) pa_nil)) (nomark _)) (pss_one (ps_ret pe_bl)) pss_nil)
      (pss_one (ps_ret (pe_cmpR op_isN (pe_dn dFirstD hr (pa_cons (pv 18) (pa_cons (pv 11) pa_nil))) pe_non (nomark _)))))))))))))))))))), ?_⟩
    refine ⟨_, rfl, sc, ns, rfl, hS, hl, fun H1 p s1 hp hP => ?_⟩
    obtain ⟨pc, hP⟩ := Pen.penC hP
    refine normG (σ' := [some (.ref sc), some (.ref p), none, none, none, none, none, none, none, none, none, none, none, none, none, none, none, none, none]) rfl ?_
    refine ⟨_, rfl, _, rfl, p, 3, 0, pc, rfl, by decide, by decide, by decide, hP, fun H2 d d0 d1 hP2 k2 => ⟨_, _, rfl, rfl, ?_⟩⟩
    obtain ⟨N, hN⟩ : ∃ N : Nat, (N : Int) = 1 + d := ⟨(1 + d).toNat, by omega⟩
    refine ⟨p, pc, N, 1, (by rw [hN]; rfl), by omega, by omega, by omega, hP2, fun H3 r xs ls hr3 dx3 lL okN hP3 k3 nr => ?_⟩
    have l3 : ls.length ≤ 3 := by omega
    have ok : ∀ l ∈ ls, LpOk l := fun l hl => (okN l hl).1
    refine ⟨_, rfl, p, 7, 1 + 700, pc, rfl, by decide, by decide, by decide, hP3, fun H4 n n0 n1 hP4 k4 => ?_⟩
    have n8 : n ≤ 8 := by omega
    have hr4 := hP3.lst k4 hr3
    have dx4 := dx3.keepC hP3 k4
    refine ⟨_, _, rfl, ?_⟩
    refine norm (N := fun σ _ => _) (σ' := [some (.ref sc), some (.ref p), some (.ref r), some (.int n), none, none, none, none, none, none, none, none, none, none, none, none, none, none, none]) rfl ?_
    dsimp only
    refine ⟨_, rfl, r, xs, ls, rfl, hr4, dx4, l3, ok, fun v H5 s5 ob5 => ?_⟩
    refine ⟨Nat.zero_le _, fun gl hgl => ?_⟩
    refine ⟨_, _, rfl, ?_⟩
    refine norm (N := fun σ _ => _) (σ' := [some (.ref sc), some (.ref p), some (.ref r), some (.int n), some v, some (.ref gl), none, none, none, none, none, none, none, none, none, none, none, none, none]) rfl ?_
    dsimp only
    have hP5 := hP4.same s5
    have s56 := Same.new (.lst []) (Same.refl H5) hgl
    obtain ⟨H6, eH6⟩ : ∃ X, X = upd H5 gl (.lst []) := ⟨_, rfl⟩
    have eg6 : H6 gl = some (.lst []) := by rw [eH6]; exact upd_same
    rw [← eH6] at s56
    rw [← eH6]
    have hP6 := hP5.same s56
    have nglp : gl ≠ p := (hP5.ne' hgl).symm
    have nglc : gl ≠ pc := by
      obtain ⟨o, ho⟩ := hP5.has
      exact (ne_of_none ho hgl).symm
    have hr5 := s5 _ _ hr4
    have dx5 := dx4.to (.of s5)
    refine ⟨_, rfl, p, 4, 702, pc, rfl, by decide, by decide, by decide, hP6.mono (by omega), fun H7 m m0 m1 hP7 k7 => ?_⟩
    obtain ⟨m, rfl, hm⟩ := drawn m0 m1
    refine ⟨(m : Int), rfl, by omega, by omega, ?_⟩
    rw [Int.toNat_natCast]
    refine for_range (lo := 0) (n := m) (fun i σ H' => ∃ (v6 : Option V) (ys : List V) (gs : List Gv), σ = [some (.ref sc), some (.ref p), some (.ref r), some (.int n), some v, some (.ref gl), v6, none, none, none, none, none, none, none, none, none, none, none, none] ∧
      H' gl = some (.lst ys) ∧ DTs H' ys (gs.map gvD) ∧ gs.length = i ∧ (∀ g ∈ gs, g.1 ∈ nms ls) ∧ PenC H' p pc (703 + 40 * i) ∧ Keep p H5 H') ?_ ?_ ?_
    · exact ⟨_, [], [], rfl, hP6.lst k7 eg6, .nil, rfl, (fun _ h => (List.not_mem_nil h).elim), hP7.mono (by omega), (Keep.of s56).trans k7⟩
    · rintro i σ Hc hi ⟨v6, ys, gs, rfl, eg, dg, lg, ng, hPc, kc⟩
      have hi : i < m := hi
      refine normG (σ' := [some (.ref sc), some (.ref p), some (.ref r), some (.int n), some v, some (.ref gl), some (.int (0 + (i : Int))), none, none, none, none, none, none, none, none, none, none, none, none]) rfl ?_
      have hrc := kc _ _ (hP5.ne hr5 fun _ z => by cases z) hr5
      have dxc := dx5.keepC hP5 kc
      obtain ⟨l0, hl0⟩ : ∃ l0, ls[0]? = some l0 := ⟨_, List.getElem?_eq_getElem (by omega)⟩
      obtain ⟨okl, sne⟩ := okN l0 (List.mem_of_getElem? hl0)
      obtain ⟨st0, hs0⟩ : ∃ st0, l0.sts[0]? = some st0 := ⟨_, List.getElem?_eq_getElem (by omega)⟩
      obtain ⟨lv, hlv, dlv⟩ := DTs.get 0 _ dxc (by rw [List.getElem?_map, hl0]; rfl)
      obtain ⟨tl, q1, q2, ts, xs1, rfl, htl, _, _, hts, dst⟩ := dt_lp dlv
      obtain ⟨sv, hsv, dsv⟩ := DTs.get 0 _ dst (by rw [List.getElem?_map, hs0]; rfl)
      obtain ⟨t6, q6, tr6, tg6, x6, y6, rfl, h6, _⟩ := dt_st dsv
      refine ⟨_, rfl, (.inl ⟨rfl, _, SqL.of eg⟩), _, rfl, r, _, _, _, rfl, rfl, SqL.of hrc, atI_nat (j := 0) hlv, tl, _, _, _, rfl, rfl, SqT.of htl, at4, ts, _, _, _, rfl, rfl, SqT.of hts, atI_nat (j := 0) hsv, t6, _, _, _, rfl, rfl, SqT.of h6, at0, ?_⟩
      refine ⟨_, rfl, p, 9, 703 + 40 * i, pc, rfl, by decide, by decide, by omega, hPc, fun H9 a a0 a1 hP9 k9 => ⟨_, _, rfl, rfl, _, rfl, p, pc, 704 + 40 * i, rfl, by omega, hP9.mono (by omega), fun HA g g0 g1 hPA kA => ⟨sz3, fun tt htt => ?_⟩⟩⟩
      have k9A := k9.trans kA
      have egA := hPc.lst k9A eg
      have sB := Same.new (.tup [.str st0.x, .int (a - 3), .int g]) (Same.refl HA) htt
      obtain ⟨HB, eHB⟩ : ∃ X, X = upd HA tt (.tup [.str st0.x, .int (a - 3), .int g]) := ⟨_, rfl⟩
      have ett : HB tt = some (.tup [.str st0.x, .int (a - 3), .int g]) := by rw [eHB]; exact upd_same
      rw [← eHB] at sB
      rw [← eHB]
      have egB := sB _ _ egA
      have lys : ys.length = gs.length := by rw [dg.len, List.length_map]
      refine ⟨gl, ys, .ref tt, rfl, rfl, egB, sz1m _ (by omega), ?_⟩
      have tsU : TSame HB (upd HB gl (.lst (ys ++ [.ref tt]))) := .updL egB
      refine ⟨_, ys ++ [.ref tt], gs ++ [(st0.x, a - 3, g)], rfl, upd_same, ?_, by rw [List.length_append, lg]; rfl, fun g' hg' => ?_, ?_, ?_⟩
      · have dnew : DT (upd HB gl (.lst (ys ++ [.ref tt]))) (.ref tt) (gvD (st0.x, a - 3, g)) := .tup (tsU _ _ ett) (.cons (.str _) (.cons (.int _) (.cons (.int _) .nil)))
        exact (((dg.keepC hPc k9A).to (.of sB)).to tsU).snoc dnew
      · rcases List.mem_append.mp hg' with q | q
        · exact ng g' q
        · rw [List.mem_singleton.mp q]
          exact mem_nms (List.mem_of_getElem? hl0) (List.mem_of_getElem? hs0)
      · exact (hPA.same sB).upd nglp nglc (by omega)
      · intro b o nb e
        rw [upd_ne (ne_of_none e hgl)]
        exact sB _ _ (k9A b o nb (kc b o nb e))
    · rintro σ H8 ⟨v6, ys, gs, rfl, eg8, dg8, lg, ng, hP8, k8⟩
      have lys : ys.length = gs.length := by rw [dg8.len, List.length_map]
      have nmg : ∀ g ∈ gs, isName g.1 = true := fun g hg => nms_name ok (ng g hg)
      have gb : gBad gs = none := gbad_none nmg
      have lgn : ∀ g ∈ gs, g.1.length ≤ 1000 := fun g hg => isName_len (nmg g hg)
      have hr8 := k8 _ _ (hP5.ne hr5 fun _ z => by cases z) hr5
      have dx8 := dx5.keepC hP5 k8
      have ob8 := ob5.ms (MS.keep hP5.pen k8)
      have okL : LsOk ls := ⟨l3, ok⟩
      have tsm := tot_small ok n0 n8
      have in0 : 0 ≤ n ∧ n ≤ TOP := ⟨n0, Int.le_trans n8 (by decide)⟩
      have w540 : (works ls n).length ≤ 540 := works_len ok l3 n0 n8
      refine ⟨_, rfl, _, rfl, _, rfl, r, gl, xs, ys, ls, n, gs, rfl, hr8, dx8, l3, ok, n0, n8, eg8, dg8, by omega, nmg, fun T0 W F H9 ws fs s9 eT eW dW eF lF each => ?_⟩
      refine ⟨T0, _, rfl, SqT.of eT, rfl, _, _, rfl, _, _, rfl, rfl, ?_⟩
      refine norm (N := fun σ _ => _) (σ' := [some (.ref sc), some (.ref p), some (.ref r), some (.int n), some v, some (.ref gl), v6, some (.ref W), some (.ref F), none, none, none, none, none, none, none, none, none, none]) rfl ?_
      dsimp only
      have hP9 := hP8.same s9
      have L9 : Law K p pc r v gl W F xs ys ws fs ls gs n H9 (703 + 40 * m) := ⟨hP9, s9 _ _ hr8, ob8.ms (.of s9), s9 _ _ eg8, dg8.to (.of s9), ⟨eW, dW, eF, lF, each⟩⟩
      refine ⟨_, rfl, _, rfl, _, rfl, p, pc, v, ls, n, 703 + 40 * m, rfl, hP9, by omega, L9.prog.ob, okL, n0, in0.2, by omega, fun HA hPA kA => ⟨_, rfl, if_no rfl ?_⟩⟩
      have LA := L9.keep kA hPA
      have noB : ∀ y, gBad gs = some y → False := fun y e => by
        rw [gb] at e
        cases e
      refine ⟨_, rfl, _, rfl, _, rfl, rfl, rfl, v, .int n, ls, gl, ys, gs, rfl, LA.prog.ob, okL, .inl (SqL.of LA.given), LA.dg, by omega, lgn, .inr ⟨n, rfl, fun h => absurd in0 h, fun _ => ⟨fun h => absurd h (by omega), fun _ => ⟨fun y e => (noB y e).elim, fun _ one HB sB stB => ?_⟩⟩⟩⟩
      have LB := LA.same sB
      refine ⟨_, rfl, _, rfl, _, rfl, rfl, rfl, v, .int n, ls, gl, ys, gs, rfl, LB.prog.ob, okL, .inl (SqL.of LB.given), LB.dg, by omega, lgn, .inr ⟨n, rfl, fun h => absurd in0 h, fun _ => ⟨fun h => absurd h (by omega), fun _ => ⟨fun y e => (noB y e).elim, fun _ other HC sC stC => ?_⟩⟩⟩⟩
      have LC := LB.same sC
      refine ⟨_, _, rfl, ?_⟩
      refine norm (N := fun σ _ => _) (σ' := [some (.ref sc), some (.ref p), some (.ref r), some (.int n), some v, some (.ref gl), v6, some (.ref W), some (.ref F), some (.ref one), some (.ref other), none, none, none, none, none, none, none, none]) rfl ?_
      dsimp only
      have st1 := stB.same sC
      refine ⟨_, rfl, _, rfl, _, rfl, _, one, W, F, ws, fs, ls, n, giv gs, 0, _, rfl, st1, LC.found, by omega, fun HD sD => ?_⟩
      have LD := LC.same sD
      refine ⟨_, rfl, if_no rfl ?_⟩
      have sBD := sC.trans sD
      have stW1 : SteAt (fun b => (HA b = none ∧ HB b ≠ none) ∨ HD b = none) K HD one ls n (giv gs) 0 (2 * gs.length) := (stB.imp fun b h1 h2 => .inl ⟨h1, h2⟩).same sBD
      have stW2 : SteAt (fun b => HB b = none ∧ HC b ≠ none) K HD other ls n (giv gs) 0 (2 * gs.length) := (stC.imp fun b h1 h2 => ⟨h1, h2⟩).same sD
      refine ⟨_, rfl, _, rfl, _, rfl, _, rfl, _, rfl, HA, _, _, p, pc, one, other, W, F, ws, fs, ls, n, giv gs, _, _, rfl, LA.pen, by omega, sB.trans sBD, LA.found, okL, by omega, stW1, by omega, stW2, fun b h => ?_, fun b h => none_back sB h.1, fun e h => .inr h, fun HE hPE kE => ?_⟩
      · rcases h with ⟨h1, h2⟩ | h
        · exact ⟨h1, fun z => h2 z.1⟩
        · exact ⟨none_back (sB.trans sBD) h, fun z => z.2 (none_back sD h)⟩
      refine ⟨_, rfl, if_no rfl ?_⟩
      have LE := LA.keep kE hPE
      refine ⟨_, rfl, _, rfl, _, rfl, rfl, rfl, v, .int n, ls, gl, ys, gs, rfl, LE.prog.ob, l3, ok, .inl (SqL.of LE.given), LE.dg, by omega, lgn, .inr ⟨n, rfl, fun h => absurd in0 h, fun _ => ⟨fun h => absurd h (by omega), fun _ => ⟨fun y e => (noB y e).elim, fun _ whole HG sG ruW => ?_⟩⟩⟩⟩
      refine normG (σ' := [some (.ref sc), some (.ref p), some (.ref r), some (.int n), some v, some (.ref gl), v6, some (.ref W), some (.ref F), some (.ref one), some (.ref other), some (.ref whole), none, none, none, none, none, none, none]) rfl ?_
      have LG := LE.same sG
      obtain ⟨L, eL0, ⟨kvs, hL, fr⟩⟩ := LG.found.each _ (Nat.le_refl _)
      rw [List.take_length] at fr
      obtain ⟨cs, ecs, nms⟩ := fr.keys
      have nFL : F ≠ L := fun z => by
        have e := LG.found.hf
        rw [z, hL] at e
        cases e
      refine ⟨L, .dT kvs, hL, trivial, fun od => ?_⟩
      have ru3 := ruW.lock (od := od) hL
      have eF3 : (upd HG L (.frz od (.dT kvs))) F = some (.lst fs) := by rw [upd_ne nFL]; exact LG.found.hf
      have eL3 : (upd HG L (.frz od (.dT kvs))) L = some (.frz od (.dT kvs)) := upd_same
      obtain ⟨HL, eHL⟩ : ∃ X, X = upd HG L (.frz od (.dT kvs)) := ⟨_, rfl⟩
      rw [← eHL] at ru3 eF3 eL3
      rw [← eHL]
      refine ⟨_, rfl, _, rfl, F, _, _, _, rfl, rfl, SqL.of eF3, atI_lastN LG.found.len eL0, L, od, rfl, .inr ⟨kvs, eL3, ?_⟩⟩
      refine for_it (walk_keysT (d := L) (o := od) (kvs := kvs)) (fun j σ H' => ∃ v12 : Option V, σ = [some (.ref sc), some (.ref p), some (.ref r), some (.int n), some v, some (.ref gl), v6, some (.ref W), some (.ref F), some (.ref one), some (.ref other), some (.ref whole), v12, none, none, none, none, none, none] ∧ Same HL H') ⟨_, rfl, Same.refl HL⟩ (fun j σ H' _ z => by
        obtain ⟨_, _, sc⟩ := z
        exact sc _ _ eL3) ?_ ?_
      · rintro j x σ Hc H' lt ⟨v12, rfl, sc'⟩ ⟨rfl, ky, v0, qa, hk, rfl, hqa⟩
        have hin0 : ky ∈ kvs.map (·.1) := List.mem_map.mpr ⟨_, List.mem_of_getElem? hk, rfl⟩
        have hin := hin0
        rw [ecs] at hin
        obtain ⟨c, hc, rfl⟩ := List.mem_map.mp hin
        have nc := nms c hc
        have hqa' : H' qa = some (.tup [.str c.1, .int c.2]) := hqa
        refine normG (σ' := [some (.ref sc), some (.ref p), some (.ref r), some (.int n), some v, some (.ref gl), v6, some (.ref W), some (.ref F), some (.ref one), some (.ref other), some (.ref whole), some (.ref qa), none, none, none, none, none, none]) rfl ?_
        obtain ⟨dx4, a4, hp4⟩ := (ru3.same sc').ins
        refine ⟨_, rfl, whole, dx4, _, rfl, hp4, ruf_no (by decide +kernel) (by decide +kernel), _, rfl, qa, _, _, _, rfl, rfl, SqT.of hqa', at0, _, rfl, qa, _, _, _, rfl, rfl, SqT.of hqa', at1, _, whole, _, _, _, c.1, c.2, rfl, ru3.same sc', isName_len nc, fun z => (by rw [nc] at z; cases z), fun _ H5 s5 => ?_⟩
        have sc5 := sc'.trans s5
        have gd := DGet.r (k := cK c) (a := L) (kvs := kvs) (.inr ⟨od, sc5 _ _ eL3⟩) (s5 _ _ hqa)
        obtain ⟨u, hu2⟩ : ∃ u, ran ls n (works ls n) (giv gs) c.1 c.2 = some u := by
          have q : (valV kvs (cK c)).isSome = true := keys_in.mpr hin0
          rw [fr.look] at q
          cases e : ran ls n (works ls n) (giv gs) c.1 c.2 with
          | none =>
            rw [e] at q
            cases q
          | some u => exact ⟨u, rfl⟩
        rw [fr.look, hu2] at gd
        have hk2 : held (ran ls n (works ls n) (giv gs)) c.1 c.2 = u := by unfold held; rw [hu2]
        rw [hk2]
        refine ⟨_, rfl, _, rfl, F, _, _, _, rfl, rfl, SqL.of (sc5 _ _ eF3), atI_lastN LG.found.len eL0, _, rfl, L, _, rfl, gd, rfl, _, rfl, if_no (by simp) ⟨_, rfl, sc5⟩⟩
      · rintro σ Hc ⟨v12, rfl, sc'⟩
        refine ⟨sc' _ _ eL3, ?_⟩
        have sF : Same HG (upd Hc L (.dT kvs)) := fun b o e => by
          by_cases z : b = L
          · subst z
            rw [hL] at e
            cases e
            exact upd_same
          · rw [upd_ne z]
            exact sc' _ _ (by rw [eHL, upd_ne z]; exact e)
        obtain ⟨HM, eHM⟩ : ∃ X, X = upd Hc L (.dT kvs) := ⟨_, rfl⟩
        rw [← eHM] at sF
        rw [← eHM]
        have LM := LG.same sF
        have ruM := ruW.same sF
        clear eHM
        have lxs : xs.length = ls.length := by rw [dx8.len, List.length_map]
        refine ⟨_, rfl, _, rfl, r, xs, rfl, .inl (SqL.of LM.rows), _, _, rfl, rfl, p, _, _, pc, rfl, by omega, by omega, by omega, LM.pen, fun HN cd c0 c1 hPN kN => ?_⟩
        obtain ⟨c, hc⟩ : ∃ c : Nat, (c : Int) = cd := ⟨cd.toNat, by omega⟩
        refine normG (σ' := [some (.ref sc), some (.ref p), some (.ref r), some (.int n), some v, some (.ref gl), v6, some (.ref W), some (.ref F), some (.ref one), some (.ref other), some (.ref whole), v12, some (.int (c : Int)), none, none, none, none, none]) (by rw [hc]; rfl) ?_
        have cl : c ≤ ls.length := by omega
        have LN := LM.keep kN hPN
        have ruN := ruM.keepC LM.pen kN
        obtain ⟨pp, xo, yo, rfl, ⟨dxp, lo, ao, dd, hpp, sqx, sqy⟩, fa, ndy, memy, srt⟩ := LN.prog
        have lxo : xo.length = ls.length := fa.1
        refine ⟨_, rfl, pp, _, dxp, _, _, rfl, hpp, T.clP, T.nPL, prf_l _ _ _, _, rfl, _, rfl, slice_take sqx (by omega) fun q1 HO sO sqO => ?_⟩
        have l3t : (ls.take c).length ≤ 3 := by rw [List.length_take]; omega
        have okt : ∀ l ∈ ls.take c, LpOk l := fun l hl => ok l (List.take_subset _ _ hl)
        unfold tNil
        dsimp only
        refine part_made (K := K) sqO ((fa.imp fun _ _ z => z.same sO).take c) l3t okt fun p1 HP sP ob1 => ?_
        have LP := (LN.same sO).same sP
        have tst := tot_small okt n0 n8
        refine ⟨_, rfl, _, rfl, rfl, rfl, .ref p1, .int n, ls.take c, gl, ys, gs, rfl, ob1, l3t, okt, .inl (SqL.of LP.given), LP.dg, by omega, lgn, .inr ⟨n, rfl, fun h => absurd in0 h, fun _ => ⟨fun h => absurd h (by omega), fun _ => ⟨fun y e => (noB y e).elim, fun _ first HQ sQ ruF => ?_⟩⟩⟩⟩
        refine normG (σ' := [some (.ref sc), some (.ref p), some (.ref r), some (.int n), some (.ref pp), some (.ref gl), v6, some (.ref W), some (.ref F), some (.ref one), some (.ref other), some (.ref whole), v12, some (.int (c : Int)), some (.ref first), none, none, none, none]) rfl ?_
        have LQ := LP.same sQ
        have sNQ := sO.trans (sP.trans sQ)
        refine ⟨Nat.zero_le _, fun lf0 hlf0 => ?_⟩
        refine normG (σ' := [some (.ref sc), some (.ref p), some (.ref r), some (.int n), some (.ref pp), some (.ref gl), v6, some (.ref W), some (.ref F), some (.ref one), some (.ref other), some (.ref whole), v12, some (.int (c : Int)), some (.ref first), some (.ref lf0), none, none, none]) rfl ?_
        have sR := Same.new (.lst []) (Same.refl HQ) hlf0
        obtain ⟨HR, eHR⟩ : ∃ X, X = upd HQ lf0 (.lst []) := ⟨_, rfl⟩
        have elf : HR lf0 = some (.lst []) := by rw [eHR]; exact upd_same
        rw [← eHR] at sR
        rw [← eHR]
        have sNR := sNQ.trans sR
        have LR := LQ.same sR
        obtain ⟨f1, hf1⟩ : ∃ f1, f1 = ran (ls.take c) n (works (ls.take c) n) (giv gs) := ⟨_, rfl⟩
        have ruR := ruF.same sR
        rw [← hf1] at ruR
        refine ⟨_, rfl, pp, _, dxp, _, _, rfl, sNR _ _ hpp, T.clP, T.nPA, prf_a _ _ _, ao, rfl, ⟨_, SqT.same sqy sNR⟩, ?_⟩
        have wsplit := works_split (ls := ls) (n := n) cl
        have wlen : (works ls n).length = (works (ls.take c) n).length + (works (ls.drop c) n).length := by rw [wsplit, List.length_append, List.length_map]
        have mem1 : ∀ x i, f1 x i ≠ none → x ∈ yo := fun x i h => (memy x).mpr (ran_nms (c := c) ng (by rw [← hf1]; exact h))
        have few1 : ∀ (L : List Gv) (zs : List Str), LeftOk f1 zs L → L.length ≤ gs.length + (works (ls.take c) n).length := fun L zs h => cells_few (ls := ls.take c) (n := n) h.one fun g hg => by
          rw [← hf1, (h.told g hg).1]
          exact fun z => by cases z
        refine for_tup (K := K) (xs := yo.map V.str) (fun i σ H' => ∃ (lf : Addr) (us : List V) (L : List Gv) (v16 : Option V), σ = [some (.ref sc), some (.ref p), some (.ref r), some (.int n), some (.ref pp), some (.ref gl), v6, some (.ref W), some (.ref F), some (.ref one), some (.ref other), some (.ref whole), v12, some (.int (c : Int)), some (.ref first), some (.ref lf), v16, none, none] ∧
          H' lf = some (.lst us) ∧ DTs H' us (L.map gvD) ∧ LeftOk f1 (yo.take i) L ∧ Same HR H') ⟨lf0, [], [], none, rfl, elf, .nil, .nil, Same.refl HR⟩ (fun i σ H' _ z => by
            obtain ⟨_, _, _, _, _, _, _, _, s'⟩ := z
            exact SqT.same (SqT.same sqy sNR) s') ?_ ?_
        · rintro i yv σ Hc hyv ⟨lf, us, L, v16, rfl, eus, dus, lok, sc'⟩
          rw [List.getElem?_map] at hyv
          obtain ⟨y, hy, rfl⟩ := Option.map_eq_some_iff.mp hyv
          have ny : isName y = true := nms_name ok ((memy y).mp (List.mem_of_getElem? hy))
          refine normG (σ' := [some (.ref sc), some (.ref p), some (.ref r), some (.int n), some (.ref pp), some (.ref gl), v6, some (.ref W), some (.ref F), some (.ref one), some (.ref other), some (.ref whole), v12, some (.int (c : Int)), some (.ref first), some (.ref lf), some (.str y), none, none]) rfl ?_
          obtain ⟨dx5, a5, hp5⟩ := (ruR.same sc').ins
          refine ⟨_, rfl, _, rfl, first, dx5, _, rfl, hp5, ruf_no (by decide +kernel) (by decide +kernel), _, rfl, _, first, _, f1, _, y, rfl, ruR.same sc', by omega, isName_len ny, fun z => (by rw [ny] at z; cases z), fun _ tt H5 xs5 ks s5 htt dks lks ndk _ memk => ?_⟩
          refine ⟨tt, rfl, ⟨_, SqT.of htt⟩, fun D hD => ?_⟩
          have sc5 := sc'.trans s5
          refine lc_tup (K := K) (xs := xs5) (fun b Hb => ∃ ds : List V, Hb D = some (.lst ds) ∧ DTs Hb ds (((ks.take b).map fun i => ((y, i, (f1 y i).getD 0) : Gv)).map gvD) ∧ Same H5 Hb) ⟨[], upd_same, .nil, Same.new _ (Same.refl H5) hD⟩ (fun b Hb _ z => by
            obtain ⟨_, _, _, sb⟩ := z
            exact SqT.of (sb _ _ htt)) ?_ ?_
          · rintro b gv Hb hgv ⟨ds, eD, dds, sb⟩
            obtain ⟨ki, hki, dgv⟩ := (dks.to (.of sb)).map' hgv
            obtain ⟨tp, rfl, htp⟩ := dt_iv dgv
            refine ⟨tp, _, rfl, SqT.of htp, rfl, _, _, rfl, _, _, rfl, rfl, ?_⟩
            refine ⟨rfl, yes_of ?_⟩
            refine ⟨_, rfl, _, rfl, _, rfl, sz3, fun te hte => ?_⟩
            have sE := Same.new (.tup [.str y, .int ki, .int ((f1 y ki).getD 0)]) (Same.refl Hb) hte
            obtain ⟨HE2, eHE2⟩ : ∃ X, X = upd Hb te (.tup [.str y, .int ki, .int ((f1 y ki).getD 0)]) := ⟨_, rfl⟩
            have ete : HE2 te = some (.tup [.str y, .int ki, .int ((f1 y ki).getD 0)]) := by rw [eHE2]; exact upd_same
            rw [← eHE2] at sE
            rw [← eHE2]
            have eDE := sE _ _ eD
            have hb : b < ks.length := (List.getElem?_eq_some_iff.mp hki).1
            have lds : ds.length = b := by rw [dds.len, List.length_map, List.length_map, List.length_take]; omega
            refine ⟨ds, eDE, sz1m _ (by omega), ds ++ [.ref te], upd_same, ?_, fun b' o e => ?_⟩
            · have tsU : TSame HE2 (upd HE2 D (.lst (ds ++ [.ref te]))) := .updL eDE
              rw [List.take_add_one, hki]
              have dnew : DT (upd HE2 D (.lst (ds ++ [.ref te]))) (.ref te) (gvD (y, ki, (f1 y ki).getD 0)) := .tup (tsU _ _ ete) (.cons (.str _) (.cons (.int _) (.cons (.int _) .nil)))
              have q := ((dds.to (.of sE)).to tsU).snoc dnew
              rw [List.map_append]
              exact q
            · rw [upd_ne (ne_of_none e hD)]
              exact sE _ _ (sb _ _ e)
          · rintro H6' ⟨ds, eD, dds, sb⟩
            have lxs5 : xs5.length = ks.length := by rw [dks.len, List.length_map]
            rw [lxs5, List.take_length] at dds
            have sc6 := sc5.trans sb
            have hi : i < yo.length := (List.getElem?_eq_some_iff.mp hy).1
            have etk : yo.take (i + 1) = yo.take i ++ [y] := by rw [List.take_add_one, hy]; rfl
            have nyt : y ∉ yo.take i := fun z => by
              have nd2 : (yo.take i ++ [y]).Nodup := by
                rw [← etk]
                exact List.Sublist.nodup (List.take_sublist _ _) ndy
              exact (List.nodup_append.mp nd2).2.2 y z y (List.mem_singleton.mpr rfl) rfl
            have lok2 := lok.snoc nyt ndk memk
            have fw := few1 _ _ lok2
            rw [List.length_append, List.length_map] at fw
            have lus : us.length = L.length := by rw [dus.len, List.length_map]
            have lds : ds.length = ks.length := by rw [dds.len, List.length_map, List.length_map]
            refine ⟨lf, D, us, ds, rfl, rfl, sb _ _ (s5 _ _ eus), eD, Nat.le_of_lt (sz1m _ (by omega)), fun nl hnl => ?_⟩
            have sU := Same.new (.lst (us ++ ds)) (Same.refl H6') hnl
            refine ⟨nl, us ++ ds, L ++ ks.map fun i => ((y, i, (f1 y i).getD 0) : Gv), _, rfl, upd_same, ?_, by rw [etk]; exact lok2, sc6.trans sU⟩
            rw [List.map_append]
            exact DTs.append ((dus.to (.of (s5.trans sb))).to (.of sU)) (dds.to (.of sU))
        · rintro σ HT ⟨lf, us, L, v16, rfl, eus, dus, lok, sT⟩
          have lyo : (yo.map V.str).length = yo.length := by rw [List.length_map]
          rw [lyo, List.take_length] at lok
          have LT := LR.same sT
          have sNT := sNR.trans sT
          have fwL := few1 _ _ lok
          have gL : giv L = f1 := giv_left (by rw [hf1]; exact ran_modF (giv_modF gs)) (fun g hg => (lok.told g hg).1) fun x i h => lok.all x (mem1 x i h) i h
          have nmL : ∀ g ∈ L, isName g.1 = true := fun g hg => nms_name ok ((memy g.1).mp (lok.told g hg).2)
          have gbL : gBad L = none := gbad_none nmL
          have lus : us.length = L.length := by rw [dus.len, List.length_map]
          refine ⟨_, rfl, pp, _, dxp, _, _, rfl, sNT _ _ hpp, T.clP, T.nPL, prf_l _ _ _, _, rfl, _, rfl, ?_⟩
          unfold tNoPart
          dsimp only
          refine slice_drop (K := K) (c := c) (SqT.same sqx sNT) (by omega) fun q2 HU sU sqU => ?_
          have l3d : (ls.drop c).length ≤ 3 := by rw [List.length_drop]; omega
          have okd : ∀ l ∈ ls.drop c, LpOk l := fun l hl => ok l (List.drop_subset _ _ hl)
          refine part_made (K := K) sqU ((fa.imp fun _ _ z => z.same (sNT.trans sU)).drop c) l3d okd fun p2 HV sV ob2 => ?_
          have sTV := sU.trans sV
          have tsd := tot_small okd n0 n8
          refine ⟨_, rfl, _, rfl, rfl, rfl, .ref p2, .int n, ls.drop c, lf, us, L, rfl, ob2, l3d, okd, .inl (SqL.of (sTV _ _ eus)), dus.to (.of sTV), by omega, fun g hg => isName_len (nmL g hg), .inr ⟨n, rfl, fun h => absurd in0 h, fun _ => ⟨fun h => absurd h (by omega), fun _ => ⟨fun y e => (by rw [gbL] at e; cases e), fun _ last HW sW ruL => ?_⟩⟩⟩⟩
          refine normG (σ' := [some (.ref sc), some (.ref p), some (.ref r), some (.int n), some (.ref pp), some (.ref gl), v6, some (.ref W), some (.ref F), some (.ref one), some (.ref other), some (.ref whole), v12, some (.int (c : Int)), some (.ref first), some (.ref lf), v16, none, some (.ref last)]) rfl ?_
          have sTW := sTV.trans sW
          have LW := LT.same sTW
          have sNW := sNT.trans sTW
          rw [gL, hf1, ← ran_split cl] at ruL
          have ruFW := (ruR.same sT).same sTW
          have ruWW := ruN.same sNW
          obtain ⟨dx6, a6, hp6⟩ := ruFW.ins
          obtain ⟨dx7, a7, hp7⟩ := ruL.ins
          refine ⟨_, rfl, first, _, dx6, _, _, rfl, hp6, GR.cl, GR.nM, ruf_m, _, rfl, last, _, dx7, _, _, rfl, hp7, GR.cl, GR.nM, ruf_m, _, _, rfl, rfl, ?_⟩
          have lws : ws.length = (works ls n).length := by rw [LW.found.dw.len, List.length_map]
          have ee : ((works (ls.take c) n).length : Int) + ((works (ls.drop c) n).length : Int) = (ws.length : Int) := by omega
          refine ⟨_, rfl, W, ws, rfl, .inl (SqL.of LW.found.hw), rfl, _, rfl, if_no (by rw [decide_eq_true (congrArg V.int ee)]; rfl) ?_⟩
          refine ⟨_, rfl, _, rfl, _, _, last, whole, _, _, _, _, 2000, rfl, ruL.up (by omega), ruWW.up (by omega), Nat.le_refl _, fun x i _ => rfl, fun HX sX => ⟨rfl, kk _⟩⟩
end
end K28
set_option maxHeartbeats 0
namespace K28
open PySem PySem.Spec PyProof.Rows L2 Z
section
variable {P : Program} {w : World} {K : PySem.W.Frag} {mg : Str → Option Value} {base : Heap}
theorem scTooMany__init__ : FnScope ["self", "what", "many", "limit"] ["self", "what", "many", "limit"] (defScope iTooMany__init__) := ⟨rfl, rfl, rfl, by decide +kernel, rfl, by decide +kernel, by decide +kernel⟩
theorem mxTooMany {fd : FuncData} (T : EC K mg "TooMany" ["what", "many", "limit"]) (F : FnM K "TooMany" "__init__" "TooMany.__init__" iTooMany__init__ fd) : Mx P w K mg base "TooMany" ["self", "what", "many", "limit"] ["what", "many", "limit"] := by
  refine ⟨T, fd, ?_, F.bindsN fun _ _ _ _ _ _ us hl => match us, hl with | [_, _, _, _], _ => rfl⟩
  refine F.ok scTooMany__init__ (fun vs H Q E h => ?_) (fun cdv A outer s H vs Q E hr h => ⟨_, PSs.nox (pss_cons (ps_ost (pv 0) (pv 1)) (pss_cons (ps_ost (pv 0) (pv 2)) (pss_one (ps_ost (pv 0) (pv 3))))), rd_err3 T h⟩)
  obtain ⟨a, ws, rfl, e, _⟩ := h
  rw [List.length_cons, e]
  rfl
theorem scBadName__init__ : FnScope ["self", "name"] ["self", "name"] (defScope iBadName__init__) := ⟨rfl, rfl, rfl, by decide +kernel, rfl, by decide +kernel, by decide +kernel⟩
theorem mxBadName {fd : FuncData} (T : EC K mg "BadName" ["name"]) (F : FnM K "BadName" "__init__" "BadName.__init__" iBadName__init__ fd) : Mx P w K mg base "BadName" ["self", "name"] ["name"] := by
  refine ⟨T, fd, ?_, F.bindsN fun _ _ _ _ _ _ us hl => match us, hl with | [_, _], _ => rfl⟩
  refine F.ok scBadName__init__ (fun vs H Q E h => ?_) (fun cdv A outer s H vs Q E hr h => ⟨_, PSs.nox (pss_one (ps_ost (pv 0) (pv 1))), rd_err1 T h⟩)
  obtain ⟨a, ws, rfl, e, _⟩ := h
  rw [List.length_cons, e]
  rfl
theorem scBadSize__init__ : FnScope ["self", "n"] ["self", "n"] (defScope iBadSize__init__) := ⟨rfl, rfl, rfl, by decide +kernel, rfl, by decide +kernel, by decide +kernel⟩
theorem mxBadSize {fd : FuncData} (T : EC K mg "BadSize" ["n"]) (F : FnM K "BadSize" "__init__" "BadSize.__init__" iBadSize__init__ fd) : Mx P w K mg base "BadSize" ["self", "n"] ["n"] := by
  refine ⟨T, fd, ?_, F.bindsN fun _ _ _ _ _ _ us hl => match us, hl with | [_, _], _ => rfl⟩
  refine F.ok scBadSize__init__ (fun vs H Q E h => ?_) (fun cdv A outer s H vs Q E hr h => ⟨_, PSs.nox (pss_one (ps_ost (pv 0) (pv 1))), rd_err1 T h⟩)
  obtain ⟨a, ws, rfl, e, _⟩ := h
  rw [List.length_cons, e]
  rfl
theorem scTooLong__init__ : FnScope ["self", "many"] ["self", "many"] (defScope iTooLong__init__) := ⟨rfl, rfl, rfl, by decide +kernel, rfl, by decide +kernel, by decide +kernel⟩
theorem mxTooLong {fd : FuncData} (T : EC K mg "TooLong" ["many"]) (F : FnM K "TooLong" "__init__" "TooLong.__init__" iTooLong__init__ fd) : Mx P w K mg base "TooLong" ["self", "many"] ["many"] := by
  refine ⟨T, fd, ?_, F.bindsN fun _ _ _ _ _ _ us hl => match us, hl with | [_, _], _ => rfl⟩
  refine F.ok scTooLong__init__ (fun vs H Q E h => ?_) (fun cdv A outer s H vs Q E hr h => ⟨_, PSs.nox (pss_one (ps_ost (pv 0) (pv 1))), rd_err1 T h⟩)
  obtain ⟨a, ws, rfl, e, _⟩ := h
  rw [List.length_cons, e]
  rfl
end
theorem inx_of {K : PySem.W.Frag} {C : Addr} (h : insB K C = true) : Inx K C := by
  obtain ⟨h1, h⟩ := He.ba h
  obtain ⟨h2, h⟩ := He.ba h
  obtain ⟨h3, h4⟩ := He.ba h
  exact ⟨He.eqO_ok h1, He.eqO_ok h2, of_decide_eq_true h3, of_decide_eq_true h4⟩
theorem kw_of {K : PySem.W.Frag} {x : Str} (z : (match K.lookup (kwAt x K) with | some ⟨.type c, _, .seq its _, _⟩ => decide (c = "tuple") && decide (its.size = 0) | _ => false) = true) : ∀ H : Hp, SqT K H (kwAt x K) [] := by
  intro H
  cases e : K.lookup (kwAt x K) with
  | none =>
    rw [e] at z
    cases z
  | some ob =>
    rw [e] at z
    obtain ⟨oc, od, dt, osl⟩ := ob
    cases oc with
    | type c =>
      cases dt with
      | seq its n =>
        obtain ⟨z1, z2⟩ := He.ba z
        have z1 : c = "tuple" := of_decide_eq_true z1
        have z2 : its.size = 0 := of_decide_eq_true z2
        subst z1
        have z3 : its = #[] := Array.eq_empty_of_size_eq_zero z2
        subst z3
        exact .inr ⟨_, _, _, e, rfl, rfl, Nat.zero_le _, .nil⟩
      | _ => cases z
    | _ => cases z
theorem kwA_of {K : PySem.W.Frag} {a : Addr} (z : (match K.lookup a with | some ⟨.type c, _, .seq its _, _⟩ => decide (c = "tuple") && decide (its.size = 0) | _ => false) = true) : ∀ H : Hp, SqT K H a [] := by
  intro H
  cases e : K.lookup a with
  | none =>
    rw [e] at z
    cases z
  | some ob =>
    rw [e] at z
    obtain ⟨oc, od, dt, osl⟩ := ob
    cases oc with
    | type c =>
      cases dt with
      | seq its n =>
        obtain ⟨z1, z2⟩ := He.ba z
        have z1 : c = "tuple" := of_decide_eq_true z1
        have z2 : its.size = 0 := of_decide_eq_true z2
        subst z1
        have z3 : its = #[] := Array.eq_empty_of_size_eq_zero z2
        subst z3
        exact .inr ⟨_, _, _, e, rfl, rfl, Nat.zero_le _, .nil⟩
      | _ => cases z
    | _ => cases z
theorem fnIn_of {K : PySem.W.Frag} {x q : Str} {a b e d l f fd} (F : FunD K x q a b e d l f fd) : PySem.W.fnIn K f = true := by
  obtain ⟨oc, od, dV, kV, doc, pm, an, cdv, ct, osl, rfl, lk, _⟩ := F.ex
  unfold PySem.W.fnIn
  rw [lk]
theorem facts {P : Program} {w : World} {K : PySem.W.Frag} {h : Heap} {mg : Str → Option Value} {f : Addr} (X : K.In h) (G : h.Ns mainGlobals mg) (hfa : mg ("law" : Str) = some (.ref f)) (c : SaysX fa fn K) :
    ∃ fd : FuncData, (∀ (s : Shared) (v : Value), BindsTo s fd ⟨[v], []⟩ [("_law_script", v)]) ∧ ∀ base : Heap, K.In base → base.Ns mainGlobals mg → FnOk P w K mg base CX0 12 f fd ["_law_script"] (spLaw K) := by
  have gl : ∀ x ∈ glos, mg x = some (.ref (He.ga K x)) := fun x hx => He.glo_ok X G (List.all_eq_true.mp (c.fact 0) x hx)
  have fr : ∀ x ∈ frees, mg x = none := fun x hx => He.free_ok X G (List.all_eq_true.mp (c.fact 1) x hx)
  have ow : ∀ x ∈ owns, Cls K (He.ga K x) ∧ Mk K (He.ga K x) (He.ma K (He.ga K x) "__init__") ∧ Inx K (He.ga K x) := fun x hx => by
    obtain ⟨h1, z⟩ := He.ba (List.all_eq_true.mp (c.fact 2) x hx)
    obtain ⟨h2, h3⟩ := He.ba z
    exact ⟨He.cls_ok h1, He.mkr_ok h2, inx_of h3⟩
  have na : ∀ q ∈ atts, NoAttr K (He.ga K q.1) q.2 := fun q hq => He.noat_ok (List.all_eq_true.mp (c.fact 3) q hq)
  have me : ∀ q ∈ mets, Meth K (He.ga K q.1) q.2 (He.ma K (He.ga K q.1) q.2) := fun q hq => He.meth_ok (List.all_eq_true.mp (c.fact 4) q hq)
  have op : ∀ q ∈ oprs, OpI K (He.ga K q.1) q.2 := fun q hq => opiB_ok (List.all_eq_true.mp (c.fact 5) q hq)
  have kt := c.fact 7
  unfold kits at kt
  simp only [Bool.and_eq_true, decide_eq_true_eq] at kt
  obtain ⟨⟨⟨⟨⟨⟨⟨⟨⟨_, kSi⟩, kSS⟩, kSP⟩, kPP⟩, kPS⟩, kiP⟩, kiS⟩, kii0⟩, kib0⟩ := kt
  have gcd : mg "gcd" = some (.builtin "math.gcd") := PySem.W.mg_of X G (He.eqO_ok (c.fact 8))
  have xm : ∀ q ∈ ([("BadSize", "BadSize", true), ("TooLong", "TooLong", true), ("TooLong", "BadSize", false), ("BadName", "BadSize", false), ("BadName", "TooLong", false), ("BadName", "BadName", true), ("AtEnd", "AtEnd", true), ("AtStart", "AtEnd", false), ("AtStart", "AtStart", true), ("BadNumber", "AtEnd", false), ("BadNumber", "AtStart", false), ("BadNumber", "BadNumber", true)] : List (Str × Str × Bool)), PySem.W.exmOne K (.ref (He.ga K q.1)) (.ref (He.ga K q.2.1)) = some q.2.2 := fun q hq => of_decide_eq_true (List.all_eq_true.mp (c.fact 9) q hq)
  have EE : ∀ q ∈ excs, EC K mg q.1 q.2 := fun q hq => by
    obtain ⟨h1, z⟩ := He.ba (List.all_eq_true.mp (c.fact 6) q hq)
    obtain ⟨h2, z⟩ := He.ba z
    obtain ⟨h3, z⟩ := He.ba z
    obtain ⟨h4, h5⟩ := He.ba z
    exact { gC := gl q.1 ((show ∀ q ∈ excs, q.1 ∈ glos by decide +kernel) q hq), ox := oex_of h2 (exkB_ok h1), ex := exkB_ok h1, iC := He.eqO_ok h3, tI := of_decide_eq_true h4, na := fun x hx => He.eqO_ok (List.all_eq_true.mp h5 x hx) }
  have EB : EC K mg "BadNumber" ["what", "number"] := EE (("BadNumber", ["what", "number"]) : Str × List Str) (by decide +kernel)
  have ET : EC K mg "TooMany" ["what", "many", "limit"] := EE (("TooMany", ["what", "many", "limit"]) : Str × List Str) (by decide +kernel)
  have EN : EC K mg "BadName" ["name"] := EE (("BadName", ["name"]) : Str × List Str) (by decide +kernel)
  have EZ : EC K mg "BadSize" ["n"] := EE (("BadSize", ["n"]) : Str × List Str) (by decide +kernel)
  have EL : EC K mg "TooLong" ["many"] := EE (("TooLong", ["many"]) : Str × List Str) (by decide +kernel)
  have kwn : ∀ a ∈ ([kwSt K, kwRu K] : List Addr), ∀ H : Hp, SqT K H a [] := fun a ha => kwA_of (List.all_eq_true.mp (c.fact 14) a ha)
  have EM : ∀ x ∈ (["AtEnd", "AtStart"] : List Str), Em K mg x := fun x hx => by
    obtain ⟨h1, h2⟩ := He.ba (List.all_eq_true.mp (c.fact 15) x hx)
    have q := exkB_ok h1
    exact ⟨gl x ((show ∀ y ∈ (["AtEnd", "AtStart"] : List Str), y ∈ glos by decide +kernel) x hx), q.kC, h2, q.exC, q.tyC⟩
  have con0 : ∀ q ∈ ([("TOP_PART", 12), ("TOP_ONE", 999), ("TOP_RANGE_PART", 3), ("TOP_DIVISOR", 3), ("TOP_STEP", 16), ("MOST_LOOPS", 6), ("MOST_STATEMENTS", 16), ("MOST_READS", 3), ("MOST_CONDITIONS", 3), ("TOP_MODULUS", 4), ("MOST_TURNS", 20000), ("MODULUS", 1000003), ("TOP_SIZE", 1000000000000000000000000000000)] : List (Str × Int)), ∃ t, mg q.1 = some (.int q.2 t) := fun q hq => by
    have z := List.all_eq_true.mp (c.fact 10) q hq
    cases e : PySem.W.nsIn K mainGlobals q.1 with
    | none =>
      rw [e] at z
      cases z
    | some o =>
      rw [e] at z
      cases o with
      | none => cases z
      | some v =>
        cases v with
        | int i t =>
          have e2 : i = q.2 := of_decide_eq_true z
          subst e2
          exact ⟨t, PySem.W.mg_of X G e⟩
        | _ => cases z
  have con : ∀ q ∈ ([("TOP_PART", 12), ("TOP_ONE", 999), ("TOP_RANGE_PART", 3), ("TOP_DIVISOR", 3), ("TOP_STEP", 16), ("MOST_LOOPS", 6), ("MOST_STATEMENTS", 16), ("MOST_READS", 3), ("MOST_CONDITIONS", 3)] : List (Str × Int)), ∃ t, mg q.1 = some (.int q.2 t) := fun q hq => con0 q ((show ∀ q ∈ ([("TOP_PART", 12), ("TOP_ONE", 999), ("TOP_RANGE_PART", 3), ("TOP_DIVISOR", 3), ("TOP_STEP", 16), ("MOST_LOOPS", 6), ("MOST_STATEMENTS", 16), ("MOST_READS", 3), ("MOST_CONDITIONS", 3)] : List (Str × Int)), q ∈ ([("TOP_PART", 12), ("TOP_ONE", 999), ("TOP_RANGE_PART", 3), ("TOP_DIVISOR", 3), ("TOP_STEP", 16), ("MOST_LOOPS", 6), ("MOST_STATEMENTS", 16), ("MOST_READS", 3), ("MOST_CONDITIONS", 3), ("TOP_MODULUS", 4), ("MOST_TURNS", 20000), ("MODULUS", 1000003), ("TOP_SIZE", 1000000000000000000000000000000)] : List (Str × Int)) by decide +kernel) q hq)
  obtain ⟨kw1, kw2⟩ := He.ba (c.fact 11)
  have gLe : ∃ t, mg "LETTERS" = some (.str lets t) := by
    have z := c.fact 12
    cases e : PySem.W.nsIn K mainGlobals "LETTERS" with
    | none =>
      rw [e] at z
      cases z
    | some o =>
      rw [e] at z
      cases o with
      | none => cases z
      | some v =>
        cases v with
        | str x t =>
          have e2 : x = lets := of_decide_eq_true z
          subst e2
          exact ⟨t, PySem.W.mg_of X G e⟩
        | _ => cases z
  have kwz : ∀ x ∈ (["reads", "conditions"] : List Str), ∀ H : Hp, SqT K H (kwAt x K) [] := fun x hx => kw_of (List.all_eq_true.mp (c.fact 13) x hx)
  have T : LwTx K mg := {
    gS := gl "Straight" (by decide +kernel), clS := (ow "Straight" (by decide +kernel)).1, mkS := (ow "Straight" (by decide +kernel)).2.1, ixS := (ow "Straight" (by decide +kernel)).2.2
    nI := na ("Straight", "i") (by decide +kernel), nN := na ("Straight", "n") (by decide +kernel), nO := na ("Straight", "one") (by decide +kernel)
    kSi := kSi, kSS := kSS, kiS := kiS
    isi := fr _ (by decide +kernel), int := fr _ (by decide +kernel), bool := fr _ (by decide +kernel)
    gA := gl "AtLeast" (by decide +kernel), clA := (ow "AtLeast" (by decide +kernel)).1, mkA := (ow "AtLeast" (by decide +kernel)).2.1
    nAS := na ("AtLeast", "straight") (by decide +kernel)
    gcd := gcd
    gR := gl "Rest" (by decide +kernel), clQ := (ow "Rest" (by decide +kernel)).1, mkR := (ow "Rest" (by decide +kernel)).2.1
    nRS := na ("Rest", "straight") (by decide +kernel), nRM := na ("Rest", "modulus") (by decide +kernel), nRR := na ("Rest", "rest") (by decide +kernel)
    topM := con0 ("TOP_MODULUS", 4) (by simp)
    plc := { gS := gl "Straight" (by decide +kernel), clS := (ow "Straight" (by decide +kernel)).1, mkS := (ow "Straight" (by decide +kernel)).2.1, ixS := (ow "Straight" (by decide +kernel)).2.2
             nI := na ("Straight", "i") (by decide +kernel), nN := na ("Straight", "n") (by decide +kernel), nO := na ("Straight", "one") (by decide +kernel)
             kSi := kSi, kSS := kSS, kiS := kiS
             isi := fr _ (by decide +kernel), int := fr _ (by decide +kernel), bool := fr _ (by decide +kernel)
             gP := gl "Place" (by decide +kernel), clP := (ow "Place" (by decide +kernel)).1, mkP := (ow "Place" (by decide +kernel)).2.1, ixP := (ow "Place" (by decide +kernel)).2.2
             nS := na ("Place", "straight") (by decide +kernel), nD := na ("Place", "divisor") (by decide +kernel)
             gcd := gcd, kPP := kPP, kPS := kPS, kSP := kSP, kiP := kiP }
    clR := (ow "Read" (by decide +kernel)).1, nRA := na ("Read", "array") (by decide +kernel), nRP := na ("Read", "place") (by decide +kernel), nRF := na ("Read", "factor") (by decide +kernel)
    clM := (ow "Statement" (by decide +kernel)).1, nMA := na ("Statement", "array") (by decide +kernel), nMC := na ("Statement", "cell") (by decide +kernel), nMK := na ("Statement", "constant") (by decide +kernel), nMR := na ("Statement", "reads") (by decide +kernel), nMG := na ("Statement", "conditions") (by decide +kernel)
    clL := (ow "Loop" (by decide +kernel)).1, nLo := na ("Loop", "low") (by decide +kernel), nHi := na ("Loop", "high") (by decide +kernel), nSt := na ("Loop", "statements") (by decide +kernel), nSp := na ("Loop", "step") (by decide +kernel), nDn := na ("Loop", "down") (by decide +kernel)
    clP := (ow "Program" (by decide +kernel)).1, nPL := na ("Program", "loops") (by decide +kernel), nPA := na ("Program", "arrays") (by decide +kernel), nPK := na ("Program", "known") (by decide +kernel)
    con := con
    gKW := He.glo_ok X G kw1
    tKW := fun H => (He.tupB_ok kw2 H)
    gLe := gLe
    len := fr _ (by decide +kernel), tuple := fr _ (by decide +kernel), all := fr _ (by decide +kernel), str := fr _ (by decide +kernel), set := fr _ (by decide +kernel), sorted := fr _ (by decide +kernel)
    list := fr _ (by decide +kernel), range := fr _ (by decide +kernel), max := fr _ (by decide +kernel), min := fr _ (by decide +kernel), sum := fr _ (by decide +kernel), enumerate := fr _ (by decide +kernel) }
  have G2 : SrTx K := { cl := (ow "Stepper" (by decide +kernel)).1, nP := na ("Stepper", "program") (by decide +kernel), nN := na ("Stepper", "n") (by decide +kernel), nW := na ("Stepper", "works") (by decide +kernel), nC := na ("Stepper", "cells") (by decide +kernel), nO := na ("Stepper", "overwritten") (by decide +kernel) }
  have GR : RuTx K := { cl := (ow "Run" (by decide +kernel)).1, nM := na ("Run", "many_works") (by decide +kernel), nC := na ("Run", "cells") (by decide +kernel) }
  have hM := con0 ("MODULUS", 1000003) (by simp)
  have R : RErTx K mg := {
    EZ := EZ, EL := EL, EN := EN, EB := EB, aE := EM "AtEnd" (by simp), aS := EM "AtStart" (by simp)
    xZZ := xm ("BadSize", "BadSize", true) (by decide +kernel), xLL := xm ("TooLong", "TooLong", true) (by decide +kernel), xLZ := xm ("TooLong", "BadSize", false) (by decide +kernel)
    xNZ := xm ("BadName", "BadSize", false) (by decide +kernel), xNL := xm ("BadName", "TooLong", false) (by decide +kernel), xNN := xm ("BadName", "BadName", true) (by decide +kernel)
    xEE := xm ("AtEnd", "AtEnd", true) (by decide +kernel), xSE := xm ("AtStart", "AtEnd", false) (by decide +kernel), xSS := xm ("AtStart", "AtStart", true) (by decide +kernel)
    xBE := xm ("BadNumber", "AtEnd", false) (by decide +kernel), xBS := xm ("BadNumber", "AtStart", false) (by decide +kernel), xBB := xm ("BadNumber", "BadNumber", true) (by decide +kernel) }
  obtain ⟨fd_is_integer, F_is_integer⟩ := c.def_ 1 (d := d_is_integer) rfl
  obtain ⟨fd_is_integer_from, F_is_integer_from⟩ := c.def_ 2 (d := d_is_integer_from) rfl
  obtain ⟨fd_is_size, F_is_size⟩ := c.def_ 3 (d := d_is_size) rfl
  obtain ⟨fd_is_array_name, F_is_array_name⟩ := c.def_ 4 (d := d_is_array_name) rfl
  obtain ⟨fd_straight_like, F_straight_like⟩ := c.def_ 6 (d := d_straight_like) rfl
  obtain ⟨fd_place_like, F_place_like⟩ := c.def_ 7 (d := d_place_like) rfl
  obtain ⟨fd_value_of, F_value_of⟩ := c.def_ 8 (d := d_value_of) rfl
  obtain ⟨fd_turns_from, F_turns_from⟩ := c.def_ 10 (d := d_turns_from) rfl
  obtain ⟨fd_arrays_in, F_arrays_in⟩ := c.def_ 11 (d := d_arrays_in) rfl
  obtain ⟨fd_check_many, F_check_many⟩ := c.def_ 12 (d := d_check_many) rfl
  obtain ⟨fd_check_name, F_check_name⟩ := c.def_ 13 (d := d_check_name) rfl
  obtain ⟨fd_check_number, F_check_number⟩ := c.def_ 14 (d := d_check_number) rfl
  obtain ⟨fd_check_sum, F_check_sum⟩ := c.def_ 15 (d := d_check_sum) rfl
  obtain ⟨fd_check_place, F_check_place⟩ := c.def_ 16 (d := d_check_place) rfl
  obtain ⟨fd_check_range_place, F_check_range_place⟩ := c.def_ 17 (d := d_check_range_place) rfl
  obtain ⟨fd_check_run, F_check_run⟩ := c.def_ 21 (d := d_check_run) rfl
  obtain ⟨fd_works_of, F_works_of⟩ := c.def_ 23 (d := d_works_of) rfl
  obtain ⟨fd_statement_of, F_statement_of⟩ := c.def_ 24 (d := d_statement_of) rfl
  obtain ⟨fd_first_value, F_first_value⟩ := c.def_ 18 (d := d_first_value) rfl
  obtain ⟨fd_held_value, F_held_value⟩ := c.def_ 19 (d := d_held_value) rfl
  obtain ⟨fd_value_in, F_value_in⟩ := c.def_ 20 (d := d_value_in) rfl
  obtain ⟨fd_first_cells, F_first_cells⟩ := c.def_ 22 (d := d_first_cells) rfl
  obtain ⟨fd_write_of, F_write_of⟩ := c.def_ 25 (d := d_write_of) rfl
  obtain ⟨fd_run_program, F_run_program⟩ := c.def_ 26 (d := d_run_program) rfl
  obtain ⟨fd_first_difference, F_first_difference⟩ := c.def_ 27 (d := d_first_difference) rfl
  obtain ⟨fd__law_pen, F__law_pen⟩ := c.def_ 28 (d := d_law_pen) rfl
  obtain ⟨fd__law_draw, F__law_draw⟩ := c.def_ 29 (d := d_law_draw) rfl
  obtain ⟨fd__law_pick, F__law_pick⟩ := c.def_ 30 (d := d_law_pick) rfl
  obtain ⟨fd__law_big, F__law_big⟩ := c.def_ 31 (d := d_law_big) rfl
  obtain ⟨fd__law_between, F__law_between⟩ := c.def_ 32 (d := d_law_between) rfl
  obtain ⟨fd__law_far, F__law_far⟩ := c.def_ 33 (d := d_law_far) rfl
  obtain ⟨fd__law_name, F__law_name⟩ := c.def_ 34 (d := d_law_name) rfl
  obtain ⟨fd__law_names, F__law_names⟩ := c.def_ 35 (d := d_law_names) rfl
  obtain ⟨fd__law_value, F__law_value⟩ := c.def_ 36 (d := d_law_value) rfl
  obtain ⟨fd__law_guard_holds, F__law_guard_holds⟩ := c.def_ 37 (d := d_law_guard_holds) rfl
  obtain ⟨fd__law_small_guard, F__law_small_guard⟩ := c.def_ 38 (d := d_law_small_guard) rfl
  obtain ⟨fd__law_small_statement, F__law_small_statement⟩ := c.def_ 39 (d := d_law_small_statement) rfl
  obtain ⟨fd__law_small_loop, F__law_small_loop⟩ := c.def_ 40 (d := d_law_small_loop) rfl
  obtain ⟨fd__law_small_rows, F__law_small_rows⟩ := c.def_ 41 (d := d_law_small_rows) rfl
  obtain ⟨fd__law_counters, F__law_counters⟩ := c.def_ 42 (d := d_law_counters) rfl
  obtain ⟨fd__law_works, F__law_works⟩ := c.def_ 43 (d := d_law_works) rfl
  obtain ⟨fd__law_sum, F__law_sum⟩ := c.def_ 44 (d := d_law_sum) rfl
  obtain ⟨fd__law_made_guard, F__law_made_guard⟩ := c.def_ 45 (d := d_law_made_guard) rfl
  obtain ⟨fd__law_made_statement, F__law_made_statement⟩ := c.def_ 46 (d := d_law_made_statement) rfl
  obtain ⟨fd__law_made_loop, F__law_made_loop⟩ := c.def_ 47 (d := d_law_made_loop) rfl
  obtain ⟨fd__law_made, F__law_made⟩ := c.def_ 48 (d := d_law_made) rfl
  obtain ⟨fd__law_input, F__law_input⟩ := c.def_ 49 (d := d_law_input) rfl
  obtain ⟨fd__law_result, F__law_result⟩ := c.def_ 50 (d := d_law_result) rfl
  obtain ⟨fd__law_states, F__law_states⟩ := c.def_ 51 (d := d_law_states) rfl
  obtain ⟨fd__law_deed_told, F__law_deed_told⟩ := c.def_ 52 (d := d_law_deed_told) rfl
  obtain ⟨fd__law_deed_due, F__law_deed_due⟩ := c.def_ 53 (d := d_law_deed_due) rfl
  obtain ⟨fd__law_is_at, F__law_is_at⟩ := c.def_ 54 (d := d_law_is_at) rfl
  obtain ⟨fd__law_walk_right, F__law_walk_right⟩ := c.def_ 55 (d := d_law_walk_right) rfl
  obtain ⟨fd__law_refused, F__law_refused⟩ := c.def_ 56 (d := d_law_refused) rfl
  obtain ⟨fd__law_refusals_right, F__law_refusals_right⟩ := c.def_ 57 (d := d_law_refusals_right) rfl
  obtain ⟨fd_law, F_law⟩ := c.def_ 58 (d := d_law) rfl
  obtain ⟨fdBadName__init__, FBadName__init__⟩ := c.def_ 59 (d := dBadName__init__) rfl
  obtain ⟨fdBadNumber__init__, FBadNumber__init__⟩ := c.def_ 60 (d := dBadNumber__init__) rfl
  obtain ⟨fdBadSize__init__, FBadSize__init__⟩ := c.def_ 61 (d := dBadSize__init__) rfl
  obtain ⟨fdTooMany__init__, FTooMany__init__⟩ := c.def_ 62 (d := dTooMany__init__) rfl
  obtain ⟨fdTooLong__init__, FTooLong__init__⟩ := c.def_ 63 (d := dTooLong__init__) rfl
  obtain ⟨fdStraight__init__, FStraight__init__⟩ := c.def_ 64 (d := dStraight__init__) rfl
  obtain ⟨fdStraight__call__, FStraight__call__⟩ := c.def_ 65 (d := dStraight__call__) rfl
  obtain ⟨fdPlace__init__, FPlace__init__⟩ := c.def_ 66 (d := dPlace__init__) rfl
  obtain ⟨fdPlace__call__, FPlace__call__⟩ := c.def_ 67 (d := dPlace__call__) rfl
  obtain ⟨fdAtLeast__init__, FAtLeast__init__⟩ := c.def_ 68 (d := dAtLeast__init__) rfl
  obtain ⟨fdAtLeastholds, FAtLeastholds⟩ := c.def_ 69 (d := dAtLeastholds) rfl
  obtain ⟨fdRest__init__, FRest__init__⟩ := c.def_ 70 (d := dRest__init__) rfl
  obtain ⟨fdRestholds, FRestholds⟩ := c.def_ 71 (d := dRestholds) rfl
  obtain ⟨fdRead__init__, FRead__init__⟩ := c.def_ 72 (d := dRead__init__) rfl
  obtain ⟨fdStatement__init__, FStatement__init__⟩ := c.def_ 73 (d := dStatement__init__) rfl
  obtain ⟨fdStatementis_done, FStatementis_done⟩ := c.def_ 74 (d := dStatementis_done) rfl
  obtain ⟨fdLoop__init__, FLoop__init__⟩ := c.def_ 75 (d := dLoop__init__) rfl
  obtain ⟨fdLoopmany_turns, FLoopmany_turns⟩ := c.def_ 76 (d := dLoopmany_turns) rfl
  obtain ⟨fdLoopcounter_of, FLoopcounter_of⟩ := c.def_ 77 (d := dLoopcounter_of) rfl
  obtain ⟨fdLoopleast_counter, FLoopleast_counter⟩ := c.def_ 78 (d := dLoopleast_counter) rfl
  obtain ⟨fdProgram__init__, FProgram__init__⟩ := c.def_ 79 (d := dProgram__init__) rfl
  obtain ⟨fdRun__init__, FRun__init__⟩ := c.def_ 80 (d := dRun__init__) rfl
  obtain ⟨fdRunvalue_of, FRunvalue_of⟩ := c.def_ 81 (d := dRunvalue_of) rfl
  obtain ⟨fdRuncells_of, FRuncells_of⟩ := c.def_ 82 (d := dRuncells_of) rfl
  obtain ⟨fdStepper__init__, FStepper__init__⟩ := c.def_ 83 (d := dStepper__init__) rfl
  obtain ⟨fdSteppermany_done, FSteppermany_done⟩ := c.def_ 84 (d := dSteppermany_done) rfl
  obtain ⟨fdSteppernext_work, FSteppernext_work⟩ := c.def_ 85 (d := dSteppernext_work) rfl
  obtain ⟨fdStepperdo_work, FStepperdo_work⟩ := c.def_ 86 (d := dStepperdo_work) rfl
  obtain ⟨fdStepperundo_work, FStepperundo_work⟩ := c.def_ 87 (d := dStepperundo_work) rfl
  obtain ⟨fdSteppergo_to, FSteppergo_to⟩ := c.def_ 88 (d := dSteppergo_to) rfl
  obtain ⟨fdSteppervalue_of, FSteppervalue_of⟩ := c.def_ 89 (d := dSteppervalue_of) rfl
  have e := hfa.symm.trans (gl "law" (by decide +kernel))
  cases e
  refine ⟨fd_law, fun s v => FunD.bindsA (ps := ["_law_script"]) F_law (fun _ _ _ _ _ _ us hl => match us, hl with | [_], _ => rfl) s [v] rfl, fun base _ _ => ?_⟩
  have D_is_integer : Dn P w K mg base 1 "is_integer" ["value"] (spIsInt K) := ⟨_, _, ok_isInt F_is_integer T.toStTx, gl _ (by decide +kernel), F_is_integer.kp, FunD.bindsN (ps := ["value"]) F_is_integer fun _ _ _ _ _ _ us hl => match us, hl with | [_], _ => rfl⟩
  have D_is_integer_from : Dn P w K mg base 2 "is_integer_from" ["value", "low", "high"] spIntFrom := ⟨_, _, ok_intFrom F_is_integer_from D_is_integer, gl _ (by decide +kernel), F_is_integer_from.kp, FunD.bindsN (ps := ["value", "low", "high"]) F_is_integer_from fun _ _ _ _ _ _ us hl => match us, hl with | [_, _, _], _ => rfl⟩
  have DA_is_integer : Dn P w K mg base 1 "is_integer" ["value"] spIsIntA := ⟨_, _, ok_isIntA F_is_integer T.toStTx, gl _ (by decide +kernel), F_is_integer.kp, FunD.bindsN (ps := ["value"]) F_is_integer fun _ _ _ _ _ _ us hl => match us, hl with | [_], _ => rfl⟩
  have DA_from : Dn P w K mg base 2 "is_integer_from" ["value", "low", "high"] spIntFromA := ⟨_, _, ok_intFromA F_is_integer_from DA_is_integer, gl _ (by decide +kernel), F_is_integer_from.kp, FunD.bindsN (ps := ["value", "low", "high"]) F_is_integer_from fun _ _ _ _ _ _ us hl => match us, hl with | [_, _, _], _ => rfl⟩
  have D_is_size : Dn P w K mg base 3 "is_size" ["value"] spIsSize := ⟨_, _, ok_isSize F_is_size T (con0 ("TOP_SIZE", 1000000000000000000000000000000) (by simp)) DA_from, gl _ (by decide +kernel), F_is_size.kp, FunD.bindsN (ps := ["value"]) F_is_size fun _ _ _ _ _ _ us hl => match us, hl with | [_], _ => rfl⟩
  have M : MkS P w K mg base := mk_S T.toStTx FStraight__init__
  have D_straight_like : Dn P w K mg base 3 "straight_like" ["value"] (spLike K) := ⟨_, _, ok_like F_straight_like T.toStTx M, gl _ (by decide +kernel), F_straight_like.kp, FunD.bindsN (ps := ["value"]) F_straight_like fun _ _ _ _ _ _ us hl => match us, hl with | [_], _ => rfl⟩
  have D_value_of : Dn P w K mg base 1 "value_of" ["straight", "i", "n"] (spVal K) := ⟨_, _, ok_val F_value_of T.toStTx, gl _ (by decide +kernel), F_value_of.kp, FunD.bindsN (ps := ["straight", "i", "n"]) F_value_of fun _ _ _ _ _ _ us hl => match us, hl with | [_, _, _], _ => rfl⟩
  have MB : Mx P w K mg base "BadNumber" ["self", "what", "number"] ["what", "number"] := mxBadNumber EB FBadNumber__init__
  have MT : Mx P w K mg base "TooMany" ["self", "what", "many", "limit"] ["what", "many", "limit"] := mxTooMany ET FTooMany__init__
  have MN : Mx P w K mg base "BadName" ["self", "name"] ["name"] := mxBadName EN FBadName__init__
  have RE : RunE P w K mg base := { z := mxBadSize EZ FBadSize__init__, l := mxTooLong EL FTooLong__init__ }
  have MP : MkP P w K mg base := mk_P T.plc M MB D_straight_like FPlace__init__
  have MA : MkA P w K mg base := mk_A T.toAtTx M D_straight_like FAtLeast__init__
  have MR : MkR P w K mg base := mk_R T.toAtTx M MB D_straight_like D_is_integer_from FRest__init__
  have C : PC P w K mg base := {
    call := ⟨_, ok_PCall FPlace__call__ T.plc D_value_of, FPlace__call__.bindsN fun _ _ _ _ _ _ us hl => match us, hl with | [_, _, _], _ => rfl, ⟨(me ("Place", "__call__") (by decide +kernel)).at_, (me ("Place", "__call__") (by decide +kernel)).fn, fnIn_of FPlace__call__⟩⟩
    calS := ⟨_, ok_SCall FStraight__call__ D_value_of, FStraight__call__.bindsN fun _ _ _ _ _ _ us hl => match us, hl with | [_, _, _], _ => rfl, ⟨(me ("Straight", "__call__") (by decide +kernel)).at_, (me ("Straight", "__call__") (by decide +kernel)).fn, fnIn_of FStraight__call__⟩⟩ }
  have D_place_like : Dn P w K mg base 6 "place_like" ["value"] (spPLike K) := ⟨_, _, ok_pLike F_place_like T.toPrTx MP, gl _ (by decide +kernel), F_place_like.kp, FunD.bindsN (ps := ["value"]) F_place_like fun _ _ _ _ _ _ us hl => match us, hl with | [_], _ => rfl⟩
  have D_is_array_name : Dn P w K mg base 1 "is_array_name" ["value"] spIsName := ⟨_, _, ok_isName F_is_array_name T.toPrTx, gl _ (by decide +kernel), F_is_array_name.kp, FunD.bindsN (ps := ["value"]) F_is_array_name fun _ _ _ _ _ _ us hl => match us, hl with | [_], _ => rfl⟩
  have D_arrays_in : Dn P w K mg base 1 "arrays_in" ["loops"] (spArr K) := ⟨_, _, ok_arr F_arrays_in T.toPrTx, gl _ (by decide +kernel), F_arrays_in.kp, FunD.bindsN (ps := ["loops"]) F_arrays_in fun _ _ _ _ _ _ us hl => match us, hl with | [_], _ => rfl⟩
  have D_check_number : Dx P w K mg base 3 "check_number" ["what", "number", "low", "high"] (spCkN K) := ⟨_, _, ok_ckN F_check_number MB, gl _ (by decide +kernel), F_check_number.kp, FunD.bindsN (ps := ["what", "number", "low", "high"]) F_check_number fun _ _ _ _ _ _ us hl => match us, hl with | [_, _, _, _], _ => rfl⟩
  have D_check_many : Dx P w K mg base 3 "check_many" ["what", "things", "most"] (spCkM K) := ⟨_, _, ok_ckM F_check_many T.toPrTx MT, gl _ (by decide +kernel), F_check_many.kp, FunD.bindsN (ps := ["what", "things", "most"]) F_check_many fun _ _ _ _ _ _ us hl => match us, hl with | [_, _, _], _ => rfl⟩
  have D_check_name : Dx P w K mg base 3 "check_name" ["array"] (spCkA K) := ⟨_, _, ok_ckA F_check_name MN D_is_array_name, gl _ (by decide +kernel), F_check_name.kp, FunD.bindsN (ps := ["array"]) F_check_name fun _ _ _ _ _ _ us hl => match us, hl with | [_], _ => rfl⟩
  have D_check_sum : Dx P w K mg base 4 "check_sum" ["straight"] (spCkS K) := ⟨_, _, ok_ckS F_check_sum T.toPrTx D_check_number, gl _ (by decide +kernel), F_check_sum.kp, FunD.bindsN (ps := ["straight"]) F_check_sum fun _ _ _ _ _ _ us hl => match us, hl with | [_], _ => rfl⟩
  have D_check_place : Dx P w K mg base 5 "check_place" ["place"] (spCkP K) := ⟨_, _, ok_ckP F_check_place T.toPrTx D_check_number D_check_sum, gl _ (by decide +kernel), F_check_place.kp, FunD.bindsN (ps := ["place"]) F_check_place fun _ _ _ _ _ _ us hl => match us, hl with | [_], _ => rfl⟩
  have D_check_range_place : Dx P w K mg base 4 "check_range_place" ["place"] (spCkR K) := ⟨_, _, ok_ckR F_check_range_place T.toPrTx D_check_number, gl _ (by decide +kernel), F_check_range_place.kp, FunD.bindsN (ps := ["place"]) F_check_range_place fun _ _ _ _ _ _ us hl => match us, hl with | [_], _ => rfl⟩
  have MRd : MkRd P w K mg base := mk_Rd FRead__init__ { mK := (ow "Read" (by decide +kernel)).2.1, gC := gl "Read" (by decide +kernel), fn := ok_RdI FRead__init__ T.toPrTx MB D_check_name D_check_number D_place_like D_check_place }
  have MSt : MkSt P w K mg base := mk_St FStatement__init__ { mK := (ow "Statement" (by decide +kernel)).2.1, gC := gl "Statement" (by decide +kernel), fn := ok_StI FStatement__init__ T.toPrTx D_check_many D_check_name D_check_number D_check_sum D_straight_like } fun H => ⟨kwz _ (by decide +kernel) H, kwz _ (by decide +kernel) H⟩
  have MLp : MkLp P w K mg base := mk_Lp FLoop__init__ { mK := (ow "Loop" (by decide +kernel)).2.1, gC := gl "Loop" (by decide +kernel), fn := ok_LpI FLoop__init__ T.toPrTx MB D_check_many D_check_number D_place_like D_check_range_place }
  have MPr : MkPr P w K mg base := ⟨_, _, { mK := (ow "Program" (by decide +kernel)).2.1, gC := gl "Program" (by decide +kernel), fn := ok_PrI FProgram__init__ T.toPrTx D_check_many D_arrays_in }, FProgram__init__.bindsN fun _ _ _ _ _ _ us hl => match us, hl with | [_, _], _ => rfl⟩
  have MRu : MkRu P w K mg base := ⟨_, _, { mK := (ow "Run" (by decide +kernel)).2.1, gC := gl "Run" (by decide +kernel), fn := ok_RuI FRun__init__ GR }, FRun__init__.bindsN fun _ _ _ _ _ _ us hl => match us, hl with | [_, _, _], _ => rfl⟩
  have D_turns_from : Dn P w K mg base 3 "turns_from" ["loop", "least", "n"] (spTurns K) := ⟨_, _, ok_turns F_turns_from T C, gl _ (by decide +kernel), F_turns_from.kp, FunD.bindsN (ps := ["loop", "least", "n"]) F_turns_from fun _ _ _ _ _ _ us hl => match us, hl with | [_, _, _], _ => rfl⟩
  have L1 : LM1 P w K mg base := ⟨_, ok_LC FLoopleast_counter T C, FLoopleast_counter.bindsN fun _ _ _ _ _ _ us hl => match us, hl with | [_, _], _ => rfl, (me ("Loop", "least_counter") (by decide +kernel))⟩
  have HCo : HC P w K mg base := { ah := ⟨_, ok_AHolds FAtLeastholds T.toPrTx D_value_of, FAtLeastholds.bindsN fun _ _ _ _ _ _ us hl => match us, hl with | [_, _, _], _ => rfl, (me ("AtLeast", "holds") (by decide +kernel))⟩, rh := ⟨_, ok_RHolds FRestholds T.toPrTx D_value_of, FRestholds.bindsN fun _ _ _ _ _ _ us hl => match us, hl with | [_, _, _], _ => rfl, (me ("Rest", "holds") (by decide +kernel))⟩ }
  have L : LM P w K mg base := {
    mt := ⟨_, ok_MT FLoopmany_turns T L1 D_turns_from, FLoopmany_turns.bindsN fun _ _ _ _ _ _ us hl => match us, hl with | [_, _], _ => rfl, (me ("Loop", "many_turns") (by decide +kernel))⟩
    co := ⟨_, ok_CO FLoopcounter_of T L1 D_turns_from D_is_integer_from, FLoopcounter_of.bindsN fun _ _ _ _ _ _ us hl => match us, hl with | [_, _, _], _ => rfl, (me ("Loop", "counter_of") (by decide +kernel))⟩
    dn := ⟨_, ok_done FStatementis_done T HCo, FStatementis_done.bindsN fun _ _ _ _ _ _ us hl => match us, hl with | [_, _, _], _ => rfl, (me ("Statement", "is_done") (by decide +kernel))⟩ }
  have D_check_run : Dx P w K mg base 5 "check_run" ["program", "n"] (spCkRun K) := ⟨_, _, ok_ckRun F_check_run T (con0 ("MOST_TURNS", 20000) (by simp)) RE L D_is_size, gl _ (by decide +kernel), F_check_run.kp, FunD.bindsN (ps := ["program", "n"]) F_check_run fun _ _ _ _ _ _ us hl => match us, hl with | [_, _], _ => rfl⟩
  have D_works_of : Dn P w K mg base 5 "works_of" ["program", "n"] (spWorksOf K) := ⟨_, _, ok_worksOf F_works_of T L, gl _ (by decide +kernel), F_works_of.kp, FunD.bindsN (ps := ["program", "n"]) F_works_of fun _ _ _ _ _ _ us hl => match us, hl with | [_, _], _ => rfl⟩
  have D_statement_of : Dn P w K mg base 1 "statement_of" ["program", "work"] (spStmOf K) := ⟨_, _, ok_stmOf F_statement_of T, gl _ (by decide +kernel), F_statement_of.kp, FunD.bindsN (ps := ["program", "work"]) F_statement_of fun _ _ _ _ _ _ us hl => match us, hl with | [_, _], _ => rfl⟩
  have D_first_value : Dn P w K mg base 1 "first_value" ["array", "cell"] spFirst := ⟨_, _, ok_first F_first_value T hM, gl _ (by decide +kernel), F_first_value.kp, FunD.bindsN (ps := ["array", "cell"]) F_first_value fun _ _ _ _ _ _ us hl => match us, hl with | [_, _], _ => rfl⟩
  have D_held_value : Dn P w K mg base 2 "held_value" ["cells", "array", "cell"] spHeld := ⟨_, _, ok_held F_held_value D_first_value, gl _ (by decide +kernel), F_held_value.kp, FunD.bindsN (ps := ["cells", "array", "cell"]) F_held_value fun _ _ _ _ _ _ us hl => match us, hl with | [_, _, _], _ => rfl⟩
  have D_value_in : Dx P w K mg base 4 "value_in" ["cells", "array", "cell"] (spValIn K) := ⟨_, _, ok_valIn F_value_in D_check_name D_held_value, gl _ (by decide +kernel), F_value_in.kp, FunD.bindsN (ps := ["cells", "array", "cell"]) F_value_in fun _ _ _ _ _ _ us hl => match us, hl with | [_, _, _], _ => rfl⟩
  have D_write_of : Dn P w K mg base 3 "write_of" ["program", "n", "work", "cells"] (spWriteOf K) := ⟨_, _, ok_writeOf F_write_of T C hM D_statement_of D_held_value, gl _ (by decide +kernel), F_write_of.kp, FunD.bindsN (ps := ["program", "n", "work", "cells"]) F_write_of fun _ _ _ _ _ _ us hl => match us, hl with | [_, _, _, _], _ => rfl⟩
  have D_first_cells : Dx P w K mg base 4 "first_cells" ["start"] (spFirstC K) := ⟨_, _, ok_firstC F_first_cells hM D_check_name, gl _ (by decide +kernel), F_first_cells.kp, FunD.bindsN (ps := ["start"]) F_first_cells fun _ _ _ _ _ _ us hl => match us, hl with | [_], _ => rfl⟩
  have D_first_difference : Dn P w K mg base 3 "first_difference" ["one", "other"] (spFirstD K) := ⟨_, _, ok_firstD F_first_difference T GR D_held_value, gl _ (by decide +kernel), F_first_difference.kp, FunD.bindsN (ps := ["one", "other"]) F_first_difference fun _ _ _ _ _ _ us hl => match us, hl with | [_, _], _ => rfl⟩
  have dRunP : DxK P w K mg base 6 "run_program" ["program", "n", "start"] 2 ["start"] (fun vs zs => vs ++ zs) (spRunP K) := by
    obtain ⟨mv, kb⟩ := FunD.kbinds0 (ps := ["program", "n", "start"]) F_run_program 2 ["start"] [] (fun us _ ws => us ++ ws) (List.cons_ne_nil _ _) (by simp) (fun r1 _ r2 => r1.append r2)
      (fun D doc pm an cdv ct us mv ws l1 l2 l3 => match us, mv, ws, l1, l2, l3 with | [_, _], [], [_], _, _, _ => rfl)
    exact ⟨_, _, _, ok_runP F_run_program T MRu D_check_run D_works_of D_first_cells D_write_of, gl _ (by decide +kernel), F_run_program.kp, kb⟩
  have MSr : MkSr P w K mg base := by
    obtain ⟨mv, kb⟩ := FunD.kbinds0 (ps := srps) FStepper__init__ 3 ["start"] [] (fun us _ ws => us ++ ws) (List.cons_ne_nil _ _) (by simp) (fun r1 _ r2 => r1.append r2)
      (fun D doc pm an cdv ct us mv ws l1 l2 l3 => match us, mv, ws, l1, l2, l3 with | [_, _, _], [], [_], _, _, _ => rfl)
    exact ⟨_, _, { mK := (ow "Stepper" (by decide +kernel)).2.1, gC := gl "Stepper" (by decide +kernel), fn := ok_SrI FStepper__init__ T G2 D_check_run D_works_of D_first_cells }, kb⟩
  have oRV := ok_RuV (P := P) (w := w) (base := base) FRunvalue_of GR D_value_in
  have oRC := ok_RuC (P := P) (w := w) (base := base) FRuncells_of T GR D_check_name
  have oMD := ok_MD (P := P) (w := w) (base := base) FSteppermany_done T G2 
  have oNW := ok_NW (P := P) (w := w) (base := base) FSteppernext_work T G2 
  have bRV : L2.Binds K fdRunvalue_of ["self", "array", "cell"] [] := FRunvalue_of.bindsN fun _ _ _ _ _ _ us hl => match us, hl with | [_, _, _], _ => rfl
  have bRC : L2.Binds K fdRuncells_of ["self", "array"] [] := FRuncells_of.bindsN fun _ _ _ _ _ _ us hl => match us, hl with | [_, _], _ => rfl
  have bMD : L2.Binds K fdSteppermany_done ["self"] [] := FSteppermany_done.bindsN fun _ _ _ _ _ _ us hl => match us, hl with | [_], _ => rfl
  have bNW : L2.Binds K fdSteppernext_work ["self"] [] := FSteppernext_work.bindsN fun _ _ _ _ _ _ us hl => match us, hl with | [_], _ => rfl
  have bDo : L2.Binds K fdStepperdo_work ["self"] [] := FStepperdo_work.bindsN fun _ _ _ _ _ _ us hl => match us, hl with | [_], _ => rfl
  have bUn : L2.Binds K fdStepperundo_work ["self"] [] := FStepperundo_work.bindsN fun _ _ _ _ _ _ us hl => match us, hl with | [_], _ => rfl
  have bGo : L2.Binds K fdSteppergo_to ["self", "many"] [] := FSteppergo_to.bindsN fun _ _ _ _ _ _ us hl => match us, hl with | [_, _], _ => rfl
  have bSV : L2.Binds K fdSteppervalue_of ["self", "array", "cell"] [] := FSteppervalue_of.bindsN fun _ _ _ _ _ _ us hl => match us, hl with | [_, _, _], _ => rfl
  have oDo := ok_Do (P := P) (w := w) (base := base) FStepperdo_work T G2 (EM "AtEnd" (by simp)) oNW bNW (me ("Stepper", "next_work") (by decide +kernel)) D_write_of
  have oUn := ok_Undo (P := P) (w := w) (base := base) FStepperundo_work T G2 (EM "AtStart" (by simp))
  have oSV := ok_SV (P := P) (w := w) (base := base) FSteppervalue_of G2 D_value_in
  have oGo := ok_Go (P := P) (w := w) (base := base) FSteppergo_to T G2 MB oDo bDo (me ("Stepper", "do_work") (by decide +kernel)) oUn bUn (me ("Stepper", "undo_work") (by decide +kernel)) DA_from
  have D__law_pen : Dn P w K mg base 1 "_law_pen" ["_law_script"] (spPen K) := ⟨_, _, ok_pen F__law_pen T.bt, gl _ (by decide +kernel), F__law_pen.kp, FunD.bindsN (ps := ["_law_script"]) F__law_pen fun _ _ _ _ _ _ us hl => match us, hl with | [_], _ => rfl⟩
  have D__law_draw : Dn P w K mg base 1 "_law_draw" ["_law_pen_here", "_law_many"] spDrawC := ⟨_, _, ok_drawC F__law_draw T.bt, gl _ (by decide +kernel), F__law_draw.kp, FunD.bindsN (ps := ["_law_pen_here", "_law_many"]) F__law_draw fun _ _ _ _ _ _ us hl => match us, hl with | [_, _], _ => rfl⟩
  have D__law_pick : Dn P w K mg base 2 "_law_pick" ["_law_pen_here", "_law_some"] spPick := ⟨_, _, ok_pick F__law_pick T D__law_draw, gl _ (by decide +kernel), F__law_pick.kp, FunD.bindsN (ps := ["_law_pen_here", "_law_some"]) F__law_pick fun _ _ _ _ _ _ us hl => match us, hl with | [_, _], _ => rfl⟩
  have D__law_big : Dn P w K mg base 2 "_law_big" ["_law_pen_here", "_law_many"] spBigG := ⟨_, _, ok_bigG F__law_big T D__law_draw, gl _ (by decide +kernel), F__law_big.kp, FunD.bindsN (ps := ["_law_pen_here", "_law_many"]) F__law_big fun _ _ _ _ _ _ us hl => match us, hl with | [_, _], _ => rfl⟩
  have D__law_between : Dn P w K mg base 2 "_law_between" ["_law_pen_here", "_law_least", "_law_most"] spBetween := ⟨_, _, ok_between F__law_between T D__law_draw, gl _ (by decide +kernel), F__law_between.kp, FunD.bindsN (ps := ["_law_pen_here", "_law_least", "_law_most"]) F__law_between fun _ _ _ _ _ _ us hl => match us, hl with | [_, _, _], _ => rfl⟩
  have D__law_name : Dn P w K mg base 2 "_law_name" ["_law_pen_here"] spName := ⟨_, _, ok_name F__law_name T D__law_draw, gl _ (by decide +kernel), F__law_name.kp, FunD.bindsN (ps := ["_law_pen_here"]) F__law_name fun _ _ _ _ _ _ us hl => match us, hl with | [_], _ => rfl⟩
  have D__law_names : Dn P w K mg base 3 "_law_names" ["_law_pen_here", "_law_many"] spNames := ⟨_, _, ok_names F__law_names T D__law_name, gl _ (by decide +kernel), F__law_names.kp, FunD.bindsN (ps := ["_law_pen_here", "_law_many"]) F__law_names fun _ _ _ _ _ _ us hl => match us, hl with | [_, _], _ => rfl⟩
  have D__law_value : Dn P w K mg base 1 "_law_value" ["_law_row", "_law_i", "_law_n"] spValue := ⟨_, _, ok_value F__law_value T, gl _ (by decide +kernel), F__law_value.kp, FunD.bindsN (ps := ["_law_row", "_law_i", "_law_n"]) F__law_value fun _ _ _ _ _ _ us hl => match us, hl with | [_, _, _], _ => rfl⟩
  have D__law_guard_holds : Dn P w K mg base 2 "_law_guard_holds" ["_law_guard", "_law_i", "_law_n"] spGuardH := ⟨_, _, ok_guardH F__law_guard_holds T D__law_value, gl _ (by decide +kernel), F__law_guard_holds.kp, FunD.bindsN (ps := ["_law_guard", "_law_i", "_law_n"]) F__law_guard_holds fun _ _ _ _ _ _ us hl => match us, hl with | [_, _, _], _ => rfl⟩
  have D__law_small_guard : Dn P w K mg base 2 "_law_small_guard" ["_law_pen_here"] spSGuard := ⟨_, _, ok_sguard F__law_small_guard T D__law_draw, gl _ (by decide +kernel), F__law_small_guard.kp, FunD.bindsN (ps := ["_law_pen_here"]) F__law_small_guard fun _ _ _ _ _ _ us hl => match us, hl with | [_], _ => rfl⟩
  have D__law_small_statement : Dn P w K mg base 3 "_law_small_statement" ["_law_pen_here", "_law_names_here"] spSStm := ⟨_, _, ok_sstm F__law_small_statement T D__law_draw D__law_pick D__law_between D__law_small_guard, gl _ (by decide +kernel), F__law_small_statement.kp, FunD.bindsN (ps := ["_law_pen_here", "_law_names_here"]) F__law_small_statement fun _ _ _ _ _ _ us hl => match us, hl with | [_, _], _ => rfl⟩
  have D__law_small_loop : Dn P w K mg base 4 "_law_small_loop" ["_law_pen_here", "_law_names_here", "_law_most"] spSLoop := ⟨_, _, ok_sloop F__law_small_loop T D__law_draw D__law_small_statement, gl _ (by decide +kernel), F__law_small_loop.kp, FunD.bindsN (ps := ["_law_pen_here", "_law_names_here", "_law_most"]) F__law_small_loop fun _ _ _ _ _ _ us hl => match us, hl with | [_, _, _], _ => rfl⟩
  have D__law_small_rows : Dn P w K mg base 5 "_law_small_rows" ["_law_pen_here", "_law_loops", "_law_most"] spSRows := ⟨_, _, ok_srows F__law_small_rows T D__law_draw D__law_names D__law_small_loop, gl _ (by decide +kernel), F__law_small_rows.kp, FunD.bindsN (ps := ["_law_pen_here", "_law_loops", "_law_most"]) F__law_small_rows fun _ _ _ _ _ _ us hl => match us, hl with | [_, _, _], _ => rfl⟩
  have D__law_counters : Dn P w K mg base 1 "_law_counters" ["_law_row", "_law_n"] spCounters := ⟨_, _, ok_counters F__law_counters T, gl _ (by decide +kernel), F__law_counters.kp, FunD.bindsN (ps := ["_law_row", "_law_n"]) F__law_counters fun _ _ _ _ _ _ us hl => match us, hl with | [_, _], _ => rfl⟩
  have D__law_works : Dn P w K mg base 3 "_law_works" ["_law_rows", "_law_n"] spWorks := ⟨_, _, ok_works F__law_works T D__law_counters D__law_guard_holds, gl _ (by decide +kernel), F__law_works.kp, FunD.bindsN (ps := ["_law_rows", "_law_n"]) F__law_works fun _ _ _ _ _ _ us hl => match us, hl with | [_, _], _ => rfl⟩
  have D__law_sum : Dn P w K mg base 3 "_law_sum" ["_law_row"] (spSum K) := ⟨_, _, ok_lsum F__law_sum T M, gl _ (by decide +kernel), F__law_sum.kp, FunD.bindsN (ps := ["_law_row"]) F__law_sum fun _ _ _ _ _ _ us hl => match us, hl with | [_], _ => rfl⟩
  have D__law_made_guard : Dn P w K mg base 6 "_law_made_guard" ["_law_guard"] (spMGuard K) := ⟨_, _, ok_mguard F__law_made_guard T MA MR D__law_sum, gl _ (by decide +kernel), F__law_made_guard.kp, FunD.bindsN (ps := ["_law_guard"]) F__law_made_guard fun _ _ _ _ _ _ us hl => match us, hl with | [_], _ => rfl⟩
  have D__law_made_statement : Dn P w K mg base 9 "_law_made_statement" ["_law_row"] (spMStm K) := ⟨_, _, ok_mstm F__law_made_statement T MP MRd MSt D__law_sum D__law_made_guard, gl _ (by decide +kernel), F__law_made_statement.kp, FunD.bindsN (ps := ["_law_row"]) F__law_made_statement fun _ _ _ _ _ _ us hl => match us, hl with | [_], _ => rfl⟩
  have D__law_made_loop : Dn P w K mg base 10 "_law_made_loop" ["_law_row"] (spMLoop K) := ⟨_, _, ok_mloop F__law_made_loop T M MP MLp D__law_made_statement, gl _ (by decide +kernel), F__law_made_loop.kp, FunD.bindsN (ps := ["_law_row"]) F__law_made_loop fun _ _ _ _ _ _ us hl => match us, hl with | [_], _ => rfl⟩
  have D__law_made : Dn P w K mg base 11 "_law_made" ["_law_rows"] (spMade K) := ⟨_, _, ok_made F__law_made T MPr D__law_made_loop, gl _ (by decide +kernel), F__law_made.kp, FunD.bindsN (ps := ["_law_rows"]) F__law_made fun _ _ _ _ _ _ us hl => match us, hl with | [_], _ => rfl⟩
  have D__law_far : Dn P w K mg base 3 "_law_far" ["_law_pen_here"] spFar := ⟨_, _, ok_far F__law_far T D__law_draw D__law_big, gl _ (by decide +kernel), F__law_far.kp, FunD.bindsN (ps := ["_law_pen_here"]) F__law_far fun _ _ _ _ _ _ us hl => match us, hl with | [_], _ => rfl⟩
  have D__law_input : Dn P w K mg base 1 "_law_input" ["_law_array", "_law_cell"] spFirst := ⟨_, _, ok_input F__law_input T, gl _ (by decide +kernel), F__law_input.kp, FunD.bindsN (ps := ["_law_array", "_law_cell"]) F__law_input fun _ _ _ _ _ _ us hl => match us, hl with | [_, _], _ => rfl⟩
  have D__law_result : Dn P w K mg base 2 "_law_result" ["_law_row", "_law_i", "_law_n", "_law_held"] spResult := ⟨_, _, ok_result F__law_result T D__law_value D__law_input, gl _ (by decide +kernel), F__law_result.kp, FunD.bindsN (ps := ["_law_row", "_law_i", "_law_n", "_law_held"]) F__law_result fun _ _ _ _ _ _ us hl => match us, hl with | [_, _, _, _], _ => rfl⟩
  have D__law_states : Dn P w K mg base 4 "_law_states" ["_law_rows", "_law_n", "_law_given"] spStates := ⟨_, _, ok_states F__law_states T D__law_works D__law_result, gl _ (by decide +kernel), F__law_states.kp, FunD.bindsN (ps := ["_law_rows", "_law_n", "_law_given"]) F__law_states fun _ _ _ _ _ _ us hl => match us, hl with | [_, _, _], _ => rfl⟩
  have D__law_deed_due : Dn P w K mg base 1 "_law_deed_due" ["_law_way", "_law_many", "_law_done", "_law_most"] spDeedDue := ⟨_, _, ok_deedDue F__law_deed_due, gl _ (by decide +kernel), F__law_deed_due.kp, FunD.bindsN (ps := ["_law_way", "_law_many", "_law_done", "_law_most"]) F__law_deed_due fun _ _ _ _ _ _ us hl => match us, hl with | [_, _, _, _], _ => rfl⟩
  have D__law_deed_told : Dn P w K mg base 6 "_law_deed_told" ["_law_stepper", "_law_way", "_law_many"] (spDeedT K) := ⟨_, _, ok_deedT F__law_deed_told T G2 R oDo bDo (me ("Stepper", "do_work") (by decide +kernel)) oUn bUn (me ("Stepper", "undo_work") (by decide +kernel)) oGo bGo (me ("Stepper", "go_to") (by decide +kernel)), gl _ (by decide +kernel), F__law_deed_told.kp, FunD.bindsN (ps := ["_law_stepper", "_law_way", "_law_many"]) F__law_deed_told fun _ _ _ _ _ _ us hl => match us, hl with | [_, _, _], _ => rfl⟩
  have D__law_is_at : Dn P w K mg base 6 "_law_is_at" ["_law_stepper", "_law_works_here", "_law_found", "_law_done"] (spIsAt K) := ⟨_, _, ok_isAt F__law_is_at T G2 oMD bMD (me ("Stepper", "many_done") (by decide +kernel)) oNW bNW (me ("Stepper", "next_work") (by decide +kernel)) oSV bSV (me ("Stepper", "value_of") (by decide +kernel)) D__law_input, gl _ (by decide +kernel), F__law_is_at.kp, FunD.bindsN (ps := ["_law_stepper", "_law_works_here", "_law_found", "_law_done"]) F__law_is_at fun _ _ _ _ _ _ us hl => match us, hl with | [_, _, _, _], _ => rfl⟩
  have D__law_walk_right : Dn P w K mg base 7 "_law_walk_right" ["_law_pen_here", "_law_one", "_law_other", "_law_works_here", "_law_found"] (spWalk K) := ⟨_, _, ok_walk F__law_walk_right T G2 D__law_draw D__law_far D__law_deed_due D__law_deed_told D__law_is_at oGo bGo (me ("Stepper", "go_to") (by decide +kernel)), gl _ (by decide +kernel), F__law_walk_right.kp, FunD.bindsN (ps := ["_law_pen_here", "_law_one", "_law_other", "_law_works_here", "_law_found"]) F__law_walk_right fun _ _ _ _ _ _ us hl => match us, hl with | [_, _, _, _, _], _ => rfl⟩
  have D__law_refused : Dn P w K mg base 8 "_law_refused" ["_law_program", "_law_n", "_law_given", "_law_name_here"] (spRefused K) := ⟨_, _, ok_refused F__law_refused T G2 R MSr oSV bSV (me ("Stepper", "value_of") (by decide +kernel)), gl _ (by decide +kernel), F__law_refused.kp, FunD.bindsN (ps := ["_law_program", "_law_n", "_law_given", "_law_name_here"]) F__law_refused fun _ _ _ _ _ _ us hl => match us, hl with | [_, _, _, _], _ => rfl⟩
  have D__law_refusals_right : Dn P w K mg base 9 "_law_refusals_right" ["_law_pen_here", "_law_program", "_law_n"] (spRefR K) := ⟨_, _, ok_refusals F__law_refusals_right T M MLp MPr D__law_draw D__law_pick D__law_refused, gl _ (by decide +kernel), F__law_refusals_right.kp, FunD.bindsN (ps := ["_law_pen_here", "_law_program", "_law_n"]) F__law_refusals_right fun _ _ _ _ _ _ us hl => match us, hl with | [_, _, _], _ => rfl⟩
  exact ok_law F_law T G2 GR MSr MPr D__law_pen D__law_draw D__law_far D__law_small_rows D__law_made D__law_states D__law_refusals_right D__law_is_at D__law_walk_right dRunP D_first_difference oRC bRC (me ("Run", "cells_of") (by decide +kernel)) oRV bRV (me ("Run", "value_of") (by decide +kernel))
end K28
open PySem PySem.W PySem.Calls PyProof.Rows
theorem PySem.Challenge.cw_loopsize_k28_whole_steps_back_and_forth_holds : PySem.Challenge.rw_loopsize_k28_whole_steps_back_and_forth.Holds := by
  w_on; o_law
  refine HandSHeadRun.head_imp (r := OpenLaw.row PySem.Challenge.rw_loopsize_k28_whole_steps_back_and_forth) (q := view (OpenLaw.row PySem.Challenge.rw_loopsize_k28_whole_steps_back_and_forth).prog [0, 99]) (H := K28.hk) (ob := K28.ob) (M := 60000) (loose := K28.names) (d := HandSHeadRun.topDef (OpenLaw.row PySem.Challenge.rw_loopsize_k28_whole_steps_back_and_forth).prog 99) (kwd := []) K28.ob_eq
    K28.run (by kernel_rfl) (by kernel_rfl) (by kernel_rfl) (by rfl) (by first | assumption | decide +kernel) (by decide +kernel) ⟨rfl, rfl, rfl, rfl, rfl, by decide +kernel⟩ ?hw ?hc
  case hw => w_witness2
  case hc =>
    refine L2.walk_ofE (l := PySem.Challenge.rw_loopsize_k28_whole_steps_back_and_forth) (n := 63) (k := 12) (x := "_law_script") (CX := L2.CX0) rfl (by decide) (by kernel_rfl) ⟨rfl, by decide, by decide⟩ ?F (fun _ _ _ _ z => z)
    intro w mg fa h Y G hmg0
    obtain ⟨K, KX, c⟩ := Y
    have hmg : mg ("law" : PySem.Str) = some (.ref fa) := by
      have e : (HandSHeadRun.topDef (OpenLaw.row PySem.Challenge.rw_loopsize_k28_whole_steps_back_and_forth).prog 99).name = ("law" : PySem.Str) := by kernel_rfl
      rw [← e]
      exact hmg0
    obtain ⟨fd, hb, hF⟩ := K28.facts (P := (PySem.Challenge.rw_loopsize_k28_whole_steps_back_and_forth).prog) (w := w) KX G hmg c
    exact ⟨K, fd, K28.spLaw K, KX, hb, fun H a ns hl _ hS => ⟨a, ns, rfl, hS, hl, fun _ => rfl⟩, hF⟩
