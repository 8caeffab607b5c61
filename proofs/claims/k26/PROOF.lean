import PyProof.Rows.All
import Wide.All
import OpenK.AllK
import Wide.FinOn
import KE.KExcIs
import HandS.ForMost
import HandS.Exc
import HandS.ExcInit
import HandS.ExcOwn
import HandS.ExcValue
import HandS.ExcField
import HandS.ExcIs
import HandS.IsInst
import HandS.WordsExc
import HandS.Defaults
import HandS.HeadHook1
import HandS.HeadHook2
import HandS.Head0
import HandS.Head1
import HandS.Head2
import HandS.HeadEnd
import KE.KOpsOwn
import PyProof.ListMulRight
import PyProof.FactsAll.int_3
import PyProof.FactsAll.int_5
import HandS.Star
import HandS.Gcd
import HandS.Wide
import HandS.SlotsOwn
import PyProof.InstNe
import HandS.TryMany
import HandS.MakeKwOnly
import HandS.CallSlots
import HandS.SetFor
import HandS.Strs
import HandS.SetTxt0
import PyProof.Rows.SortShellAny
import HandS.Comp
import HandS.Iter
import HandS.Head3
import HandS.Walk
import KE.GoesEnum
import HandS.Style
import HandS.Dict
import HandS.DictComp
import PySem.Challenge.RW_loopsize_k26_logs_of_plain_runs
set_option Elab.async false
set_option linter.all false
set_option maxRecDepth 100000
set_option maxHeartbeats 4000000
namespace Z
open PySem PySem.Spec PyProof.Rows L2
end Z
set_option maxHeartbeats 4000000
namespace Z
open PySem PySem.Spec PyProof.Rows L2
abbrev FaK : Type := PySem.W.Frag → Bool
def obsX (fa : List FaK) (fn : List He.DefD) (K : PySem.W.Frag) : He.AlD := ((fa.all fun f => f K) && fn.all fun d => d.ok K, fn.map fun d => He.fnW K d.at_)
def SaysX (fa : List FaK) (fn : List He.DefD) (K : PySem.W.Frag) : Prop := obsX fa fn K = He.valD fn
section
variable {fa : List FaK} {fn : List He.DefD} {K : PySem.W.Frag}
theorem SaysX.fact (c : SaysX fa fn K) (i : Nat) {f : FaK} (h : fa[i]? = some f := by rfl) : f K = true := by
  have c1 := (He.ba (show ((fa.all fun f => f K) && fn.all fun d => d.ok K) = true from congrArg (fun z : He.AlD => z.1) c)).1
  exact List.all_eq_true.mp c1 f (List.mem_of_getElem? h)
theorem SaysX.def_ (c : SaysX fa fn K) (i : Nat) {d : He.DefD} (h : fn[i]? = some d := by rfl) : ∃ fd, FunD K d.name d.qual d.params d.body d.scope (d.dvs K) (d.kws K) (He.fAd K d.at_) fd := by
  have c2 := (He.ba (show ((fa.all fun f => f K) && fn.all fun d => d.ok K) = true from congrArg (fun z : He.AlD => z.1) c)).2
  have e : fn.map (fun d => He.fnW K d.at_) = fn.map He.DefD.val := congrArg (fun z : He.AlD => z.2) c
  have e2 : (fn.map fun d => He.fnW K d.at_)[i]? = (fn.map He.DefD.val)[i]? := by rw [e]
  rw [List.getElem?_map, List.getElem?_map, h] at e2
  exact He.DefD.funD (Option.some.inj e2) (List.all_eq_true.mp c2 d (List.mem_of_getElem? h))
end
def oexB (K : PySem.W.Frag) (C : Addr) : Bool := match K.lookup C with
  | some ⟨.type t, _, .cls cd, sl⟩ => decide (t = "type") && (match cd.mro, sl.toList with
    | .ref C' :: bm, [_, _, _, _, some (.builtin n), _] => decide (C' = C) && (decide (n = "ValueError.__new__") && (!cd.hasDel && (cd.hasDict && PySem.HandSPX.refsVE bm)))
    | _, _ => false)
  | _ => false
theorem oexB_ok {K : PySem.W.Frag} {C : Addr} (q : oexB K C = true) : ∃ nm q N bs bm sn sub ab col dd k0 k1 k2 k3 k5, K.lookup C = some (excClassObj nm q C N bs bm true sn sub ab col dd k0 k1 k2 k3 k5 "ValueError.__new__") ∧ PySem.HandSPX.refsVE bm = true := by
  unfold oexB at q
  split at q
  · rename_i t dd cd sl ho
    split at q
    · rename_i C' bm k0 k1 k2 k3 n k5 hm hs
      obtain ⟨q0, q⟩ := He.ba q
      obtain ⟨q1, q⟩ := He.ba q
      obtain ⟨q2, q⟩ := He.ba q
      obtain ⟨q3, q⟩ := He.ba q
      obtain ⟨q4, q5⟩ := He.ba q
      have e0 := of_decide_eq_true q0
      have e1 := of_decide_eq_true q1
      have e2 := of_decide_eq_true q2
      obtain ⟨nm, bs, mro, ns, qn, hd, sn, sub, ab, col, del⟩ := cd
      dsimp only at hm q3 q4
      have e3 : del = false := by
        cases del
        · rfl
        · cases q3
      subst hm e3 q4
      have hsl : sl = #[k0, k1, k2, k3, some (.builtin n), k5] := by
        obtain ⟨l⟩ := sl
        simp only at hs
        rw [hs]
      subst hsl
      rw [e0, e1, e2] at ho
      exact ⟨nm, qn, ns, bs, bm, sn, sub, ab, col, dd, k0, k1, k2, k3, k5, ho, q5⟩
    · obtain ⟨_, q⟩ := He.ba q
      cases q
  · cases q
/-- all that is asked of an exception class -/
def exkB (K : PySem.W.Frag) (C : Addr) : Bool :=
  He.eqO (PySem.W.findIn K (.ref C) "__setattr__") (some (some (.builtin "object.__setattr__"))) &&
  (decide (PySem.W.subIn K (.ref C) (.type "BaseException") = some true) &&
  (decide (PySem.W.typeIn K (.ref C) = some (.type "type")) &&
  (PySem.W.keepIn K (.ref C) &&
  (He.eqO (PySem.W.findIn K (.ref C) "__getattribute__") (some (some (.builtin "BaseException.__getattribute__"))) &&
  (He.eqO (PySem.W.findIn K (.ref C) "__getattr__") (some none) &&
  (PySem.W.hasDictIn K C &&
  (He.eqO (PySem.W.findIn K (.ref C) "__class__") (some (some (.builtin "object.__class__"))) &&
  (He.eqO (PySem.W.specialIn K (.builtin "object.__class__") "__get__") (some (some (.builtin "getset_descriptor.__get__"))) &&
  (decide (PySem.W.takesIn K (.builtin "object.__class__") = some true) &&
  decide (PySem.W.mroIn K C (.type "object") = some true))))))))))
structure Exk (K : PySem.W.Frag) (C : Addr) : Prop where
  sa : PySem.W.findIn K (.ref C) "__setattr__" = some (some (.builtin "object.__setattr__"))
  exC : PySem.W.subIn K (.ref C) (.type "BaseException") = some true
  tyC : PySem.W.typeIn K (.ref C) = some (.type "type")
  kC : PySem.W.keepIn K (.ref C) = true
  xf : XfC K C
  ec : ExcC K C
theorem exkB_ok {K : PySem.W.Frag} {C : Addr} (q : exkB K C = true) : Exk K C := by
  unfold exkB at q
  obtain ⟨h1, q⟩ := He.ba q
  obtain ⟨h2, q⟩ := He.ba q
  obtain ⟨h3, q⟩ := He.ba q
  obtain ⟨h4, q⟩ := He.ba q
  obtain ⟨h5, q⟩ := He.ba q
  obtain ⟨h6, q⟩ := He.ba q
  obtain ⟨h7, q⟩ := He.ba q
  obtain ⟨h8, q⟩ := He.ba q
  obtain ⟨h9, q⟩ := He.ba q
  obtain ⟨h10, h11⟩ := He.ba q
  have e2 := of_decide_eq_true h2
  exact ⟨He.eqO_ok h1, e2, of_decide_eq_true h3, h4, ⟨He.eqO_ok h5, He.eqO_ok h6, e2, h7⟩, ⟨He.eqO_ok h5, He.eqO_ok h6, e2, h7, He.eqO_ok h8, He.eqO_ok h9, of_decide_eq_true h10, of_decide_eq_true h11⟩⟩
theorem oex_of {K : PySem.W.Frag} {C : Addr} (q : oexB K C = true) (e : Exk K C) : OexC K C := ⟨oexB_ok q, e.sa, e.exC, e.tyC, e.kC⟩
def Dn (P : Program) (w : World) (K : PySem.W.Frag) (mg : Str → Option Value) (base : Heap) (j : Nat) (x : Str) (ps : List Str) (sp : Sp) : Prop :=
  ∃ (f : Addr) (fd : FuncData), FnOk P w K mg base CX0 j f fd ps sp ∧ mg x = some (.ref f) ∧ PySem.W.keepIn K (.ref f) = true ∧ Binds K fd ps []
section
variable {X : Cx} {e : Expr} {es : List Expr} {t : TA} {p pos : Pos}
theorem pe_dn {k j : Nat} {x : Str} {ps : List Str} {sp : Sp} (D : Dn X.prog X.w X.K X.mg X.base j x ps sp) (hr : Room k X.A) (ha : PA X (e :: es) t) (hjk : j ≤ k := by decide) (hg : Gl X x := by rfl)
    (hdb : (x == ("__debug__" : Str)) = false := by decide) (he : starEach (e :: es) X.env = (false, eval e X.env) :: starEach es X.env := by rfl) (hpl : (backTo pos (starEach es X.env)).any (·.1) = false := by rfl) :
    PE X (.Call (.Name x p) (e :: es) [] pos) (tCall sp [] E0 t) := by
  obtain ⟨f, fd, G, hm, hk, hb⟩ := D
  exact pe_call G (hr.mono hjk) hg hm hk hb .nil pass0 ha hdb he hpl
end
end Z
set_option maxHeartbeats 4000000
namespace Z
open PySem PySem.Spec PyProof.Rows L2
def obsRG (n : Nat) (fa : List FaK) (fn : List He.DefD) (g : Addr → Option Obj) : He.AlD := obsX fa fn (He.frG g (List.range n))
def hookR (n : Nat) (fa : List FaK) (fn : List He.DefD) : PySem.W.Hook where
  α := He.AlD
  obs := fun s => obsRG n fa fn s.heap.get?
  val := fun _ => He.valD fn
  says := fun _ h => ∃ K : PySem.W.Frag, K.In h ∧ SaysX fa fn K
  of := fun _ _ e => ⟨_, He.frG_in, e⟩
  keeps := fun _ _ _ ⟨K, hK, c⟩ k => ⟨K, PySem.W.Frag.In.keeps hK k, c⟩
theorem obsRG_eq {n : Nat} {fa : List FaK} {fn : List He.DefD} {g : Addr → Option Obj} {s : Shared} (h : ∀ a, g a = s.heap.get? a) : obsRG n fa fn g = (hookR n fa fn).obs s := by
  have e : g = s.heap.get? := funext h
  rw [e] <;> rfl
end Z
namespace Z
theorem map3 {α β γ δ : Type} {o : Option α} {f : α → β} {g : α → γ} {h : α → δ} {a : β} {b : γ} {c : δ} (h1 : o.map f = some a) (h2 : o.map g = some b) (h3 : o.map h = some c) : o.map (fun x => (f x, g x, h x)) = some (a, b, c) := by
  cases o with
  | none => cases h1
  | some x =>
    cases h1
    cases h2
    cases h3
    rfl
end Z
set_option maxHeartbeats 4000000
namespace Z
open PySem PySem.Spec PyProof.Rows L2
def penK (c : Addr) (a l : Int) : List (Key × V) := [(.inr "cells", .ref c), (.inr "at", .int a), (.inr "left", .int l)]
theorem key_ne {x y : Str} (h : ¬ x = y) : ¬ ((Sum.inr x : Key) = Sum.inr y) := fun q => h (Sum.inr.inj q)
theorem ca_ : ¬ (("cells" : Str) = "at") := by decide +kernel
theorem cl_ : ¬ (("cells" : Str) = "left") := by decide +kernel
theorem al_ : ¬ (("at" : Str) = "left") := by decide +kernel
theorem penK_cells (c : Addr) (a l : Int) : valV (penK c a l) (Sum.inr "cells" : Key) = some (.ref c) := valV_pos rfl
theorem penK_at (c : Addr) (a l : Int) : valV (penK c a l) (Sum.inr "at" : Key) = some (.int a) := by
  unfold penK
  rw [valV_neg (key_ne ca_)]
  exact valV_pos rfl
theorem penK_left (c : Addr) (a l : Int) : valV (penK c a l) (Sum.inr "left" : Key) = some (.int l) := by
  unfold penK
  rw [valV_neg (key_ne cl_), valV_neg (key_ne al_)]
  exact valV_pos rfl
theorem penK_put_at (c : Addr) (a l b : Int) : putK (penK c a l) (Sum.inr "at" : Key) (.int b) = penK c b l := by
  unfold putK
  rw [valV_any, penK_at, if_pos (show (some (V.int a)).isSome = true from rfl)]
  unfold penK
  simp only [List.map_cons, List.map_nil, if_neg (key_ne ca_), if_neg (key_ne (fun q => al_ q.symm)), if_true]
theorem penK_put_left (c : Addr) (a l b : Int) : putK (penK c a l) (Sum.inr "left" : Key) (.int b) = penK c a b := by
  unfold putK
  rw [valV_any, penK_left, if_pos (show (some (V.int l)).isSome = true from rfl)]
  unfold penK
  simp only [List.map_cons, List.map_nil, if_neg (key_ne cl_), if_neg (key_ne al_), if_true]
/-- a pen stands at p; at most t numbers were drawn -/
def Pen (H : Hp) (p : Addr) (t : Nat) : Prop := ∃ (c : Addr) (ns : List Int) (a l : Int), H p = some (.dK (penK c a l)) ∧ H c = some (.lst (ns.map V.int)) ∧ ns.length ≤ 63 ∧ 0 ≤ a ∧ a ≤ (t : Int) ∧ 0 ≤ l
/-- all but p is as it was -/
def Keep (p : Addr) (H H' : Hp) : Prop := ∀ a o, a ≠ p → H a = some o → H' a = some o
theorem Keep.refl (p : Addr) (H : Hp) : Keep p H H := fun _ _ _ h => h
theorem Keep.trans {p : Addr} {H H1 H2 : Hp} (a : Keep p H H1) (b : Keep p H1 H2) : Keep p H H2 := fun c o n h => b c o n (a c o n h)
theorem Keep.of {p : Addr} {H H' : Hp} (s : Same H H') : Keep p H H' := fun a o _ h => s a o h
theorem Keep.upd {p : Addr} {H H1 : Hp} (o : HO) (k : Keep p H H1) : Keep p H (upd H1 p o) := fun a u n h => by
  rw [upd_ne n]
  exact k a u n h
theorem Keep.new {p l : Addr} {H H1 : Hp} (o : HO) (k : Keep p H H1) (hl : H1 l = none) : Keep p H (L2.upd H1 l o) := fun a u n h => by
  have q := k a u n h
  rw [upd_ne (ne_of_none q hl)]
  exact q
theorem Same.new {l : Addr} {H H1 : Hp} (o : HO) (k : Same H H1) (hl : H1 l = none) : Same H (upd H1 l o) := fun a u h => by
  have q := k a u h
  rw [upd_ne (ne_of_none q hl)]
  exact q
theorem Pen.mono {H : Hp} {p : Addr} {t t' : Nat} (h : Pen H p t) (e : t ≤ t') : Pen H p t' := by
  obtain ⟨c, ns, a, l, h1, h2, h3, h4, h5, h6⟩ := h
  exact ⟨c, ns, a, l, h1, h2, h3, h4, by omega, h6⟩
/-- a pen is not touched where all stands -/
theorem Pen.same {H H' : Hp} {p : Addr} {t : Nat} (h : Pen H p t) (s : Same H H') : Pen H' p t := by
  obtain ⟨c, ns, a, l, h1, h2, h3⟩ := h
  exact ⟨c, ns, a, l, s _ _ h1, s _ _ h2, h3⟩
/-- what is no dict is not the pen -/
theorem Pen.ne {H : Hp} {p a : Addr} {t : Nat} {o : HO} (h : Pen H p t) (e : H a = some o) (d : ∀ kvs, o ≠ .dK kvs) : a ≠ p := by
  obtain ⟨c, ns, x, l, h1, _⟩ := h
  exact ne_of e h1 (d _)
def spPen (K : PySem.W.Frag) : Sp := fun vs H Q _ => ∃ (a : Addr) (ns : List Int), vs = [.ref a] ∧ SqL K H a (ns.map V.int) ∧ ns.length ≤ 63 ∧ ∀ H' p, Same H H' → H p = none → Pen H' p 0 → Q (.ref p) H'
def spPick : Sp := fun vs H Q _ => ∃ (p l : Addr) (xs : List V) (t : Nat), vs = [.ref p, .ref l] ∧ H l = some (.lst xs) ∧ 0 < xs.length ∧ xs.length < 1000 ∧ t < 1000000000 ∧ Pen H p t ∧
  ∀ H' (i : Nat) (v : V), xs[i]? = some v → Pen H' p (t + 1) → Keep p H H' → Q v H'
theorem fmod_range {x m : Int} (h : 0 < m) : 0 ≤ x.fmod m ∧ x.fmod m < m := by
  rw [Int.fmod_eq_emod_of_nonneg _ (Int.le_of_lt h)]
  exact ⟨Int.emod_nonneg _ (by omega), Int.emod_lt_of_pos _ h⟩
theorem fdiv_nn {x m : Int} (hx : 0 ≤ x) (h : 0 < m) : 0 ≤ x.fdiv m := by
  rw [Int.fdiv_eq_ediv_of_nonneg _ (Int.le_of_lt h)]
  exact Int.ediv_nonneg hx (Int.le_of_lt h)
theorem mul_okf {x m : Int} (h : 0 < m) (hm : m ≤ 2147483648) : -(2 ^ 64) < x.fmod m ∧ x.fmod m < 2 ^ 64 := by
  have := fmod_range (x := x) h
  omega
theorem mul_okf1 {x m : Int} (h : 0 < m) (hm : m ≤ 2147483648) : -(2 ^ 64) < x.fmod m + 1 ∧ x.fmod m + 1 < 2 ^ 64 := by
  have := fmod_range (x := x) h
  omega
section
variable {H : Hp} {p c : Addr} {a l b : Int}
theorem pen_left (h : H p = some (.dK (penK c a l))) : DGet H p (.str "left") (some (.int l)) := by
  have z := DGet.k (k := (Sum.inr "left" : Key)) h
  rw [penK_left] at z
  exact z
theorem pen_at (h : H p = some (.dK (penK c a l))) : DGet H p (.str "at") (some (.int a)) := by
  have z := DGet.k (k := (Sum.inr "at" : Key)) h
  rw [penK_at] at z
  exact z
theorem pen_cells (h : H p = some (.dK (penK c a l))) : DGet H p (.str "cells") (some (.ref c)) := by
  have z := DGet.k (k := (Sum.inr "cells" : Key)) h
  rw [penK_cells] at z
  exact z
theorem pen_put_left (b : Int) (h : H p = some (.dK (penK c a l))) : DPut H p (.str "left") (.int b) (upd H p (.dK (penK c a b))) := by
  have z := DPut.k (k := (Sum.inr "left" : Key)) (v := .int b) h (show 3 < sizeLine by decide)
  rw [penK_put_left] at z
  exact z
theorem pen_put_at (b : Int) (h : H p = some (.dK (penK c a l))) : DPut H p (.str "at") (.int b) (upd H p (.dK (penK c b l))) := by
  have z := DPut.k (k := (Sum.inr "at" : Key)) (v := .int b) h (show 3 < sizeLine by decide)
  rw [penK_put_at] at z
  exact z
end
theorem lst_ne_dK {xs : List V} {kvs : List (Key × V)} : HO.lst xs ≠ .dK kvs := fun z => by cases z
/-- data: a list of ints -/
theorem dpAll_ints {K : PySem.W.Frag} {H : Hp} : ∀ ns : List Int, DpAll K H (ns.map V.int) (ns.map PyData.int)
  | [] => .nil
  | _ :: ns => .cons (.int _) (dpAll_ints ns)
theorem canLay_ints : ∀ ns : List Int, PyData.canLayAll0 (ns.map PyData.int) = true
  | [] => by simp [PyData.canLayAll0]
  | _ :: ns => by simp [PyData.canLayAll0, PyData.canLay0, canLay_ints ns]
theorem depth_ints : ∀ ns : List Int, PyData.depthAll (ns.map PyData.int) = 0
  | [] => by simp [PyData.depthAll]
  | _ :: ns => by simp [PyData.depthAll, PyData.depth, depth_ints ns]
theorem shaped_ints (ns : List Int) : SeqAt.shaped (.list (ns.map PyData.int)) = true := by
  simp [SeqAt.shaped, PyData.canLay0, canLay_ints, PyData.depth, depth_ints]
theorem shaped_nil : SeqAt.shaped (.list []) = true := shaped_ints []
theorem eqv_ints_nil (ns : List Int) : PyData.eqv (.list (ns.map PyData.int)) (.list []) = ns.isEmpty := by
  cases ns <;> simp [PyData.eqv, PyData.eqvAll]
theorem get_ints {ns : List Int} {i : Nat} (h : i < ns.length) : (ns.map V.int)[i]? = some (.int (ns[i]'h)) := by
  rw [List.getElem?_map, List.getElem?_eq_getElem h]
  rfl
end Z
set_option maxHeartbeats 4000000
namespace Z
open PySem PySem.W PySem.Calls PyProof.Rows
end Z
set_option maxHeartbeats 4000000
namespace Z
open PySem PySem.Spec PyProof.Rows L2
/-- what is asked of a class whose instances stand beside ints -/
def opiB (K : PySem.W.Frag) (C : Addr) (nm : String) : Bool :=
  PySem.W.selfFirst K C && ((match PySem.W.findIn K (.ref C) (dunderR nm) with
    | some none => true
    | some (some (.ref _)) => true
    | _ => false) && ((PySem.W.findIn K (.type "int") (dunder nm)).isSome && ((PySem.W.findIn K (.type "int") (dunderR nm)).isSome && (decide (PySem.W.subIn K (.type "int") (.ref C) = some false) && decide (PySem.W.subIn K (.ref C) (.type "int") = some false)))))
structure OpI (K : PySem.W.Frag) (C : Addr) (nm : String) : Prop where
  sf : PySem.W.selfFirst K C = true
  rr : ∃ rc, PySem.W.findIn K (.ref C) (dunderR nm) = some rc ∧ (rc = none ∨ ∃ g : Addr, rc = some (.ref g))
  i1 : ∃ fo, PySem.W.findIn K (.type "int") (dunder nm) = some fo
  i2 : ∃ fo, PySem.W.findIn K (.type "int") (dunderR nm) = some fo
  s1 : PySem.W.subIn K (.type "int") (.ref C) = some false
  s2 : PySem.W.subIn K (.ref C) (.type "int") = some false
theorem opiB_ok {K : PySem.W.Frag} {C : Addr} {nm : String} (h : opiB K C nm = true) : OpI K C nm := by
  obtain ⟨h1, h⟩ := He.ba h
  obtain ⟨h2, h⟩ := He.ba h
  obtain ⟨h3, h⟩ := He.ba h
  obtain ⟨h4, h⟩ := He.ba h
  obtain ⟨h5, h6⟩ := He.ba h
  refine ⟨h1, ?_, Option.isSome_iff_exists.mp h3, Option.isSome_iff_exists.mp h4, of_decide_eq_true h5, of_decide_eq_true h6⟩
  cases e : PySem.W.findIn K (.ref C) (dunderR nm) with
  | none =>
    rw [e] at h2
    cases h2
  | some o =>
    rw [e] at h2
    cases o with
    | none => exact ⟨_, rfl, .inl rfl⟩
    | some v =>
      cases v with
      | ref g => exact ⟨_, rfl, .inr ⟨g, rfl⟩⟩
      | _ => cases h2
section
variable {X : Cx}
theorem ins_at {pins : List (Addr × Obj)} {σ : L2.St} {H : Hp} {s : Shared} {a C dx : Addr} {fs : List (Str × V)} (I : L2.Inv X pins σ H s) (e : H a = some (.ins C dx fs)) : ∃ od, PySem.W.InstAt s.heap a (PySem.W.instObj C dx) C (some od) := by
  obtain ⟨mA, O, _⟩ := ins_get I.hok e
  obtain ⟨od, J, _⟩ := O.look
  exact ⟨od, J⟩
end
end Z
set_option maxHeartbeats 4000000
namespace Z
open PySem PySem.Spec PyProof.Rows L2
theorem Same.keep {H H1 H' : Hp} {a : Addr} {o : HO} (s : Same H H1) (ha : H1 a = none) (kp : Keep a (upd H1 a o) H') : Same H H' := fun b u e => by
  have q := s b u e
  have nb : b ≠ a := ne_of_none q ha
  exact kp b u nb (by rw [upd_ne nb]; exact q)
/-- behind a new instance -/
theorem Same.made {H H1 H' : Hp} {x dx C : Addr} (s : Same H H1) (nx : H1 x = none) (nd : H1 dx = none) (kp : Keep x (upd (upd H1 dx (.own x)) x (.ins C dx [])) H') : Same H H' := fun b u e => by
  have q := s b u e
  have nb : b ≠ x := ne_of_none q nx
  have nd' : b ≠ dx := ne_of_none q nd
  exact kp b u nb (by rw [upd_ne nb, upd_ne nd']; exact q)
theorem in_ : ¬ (("i" : Str) = "n") := by decide +kernel
theorem io_ : ¬ (("i" : Str) = "one") := by decide +kernel
theorem no_ : ¬ (("n" : Str) = "one") := by decide +kernel
theorem sd_ : ¬ (("straight" : Str) = "divisor") := by decide +kernel
theorem len1 (f : Str) (v : V) : (putF f v []).length < 1000 := Nat.lt_of_le_of_lt (length_putF f v []) (by decide)
theorem len2 (f g : Str) (v u : V) : (putF f v (putF g u [])).length < 1000 := Nat.lt_of_le_of_lt (Nat.le_trans (length_putF f v _) (Nat.add_le_add_right (length_putF g u []) 1)) (by decide)
def sf (a b c : Int) : List (Str × V) := putF "one" (.int c) (putF "n" (.int b) (putF "i" (.int a) []))
theorem sf_i (a b c : Int) : (sf a b c).lookup ("i" : Str) = some (.int a) := by
  unfold sf
  rw [lookup_putF, if_neg io_, lookup_putF, if_neg in_, lookup_putF, if_pos rfl]
theorem sf_n (a b c : Int) : (sf a b c).lookup ("n" : Str) = some (.int b) := by
  unfold sf
  rw [lookup_putF, if_neg no_, lookup_putF, if_pos rfl]
theorem sf_one (a b c : Int) : (sf a b c).lookup ("one" : Str) = some (.int c) := by
  unfold sf
  rw [lookup_putF, if_pos rfl]
def pf (q : Addr) (d : Int) : List (Str × V) := putF "divisor" (.int d) (putF "straight" (.ref q) [])
theorem pf_s (q : Addr) (d : Int) : (pf q d).lookup ("straight" : Str) = some (.ref q) := by
  unfold pf
  rw [lookup_putF, if_neg sd_, lookup_putF, if_pos rfl]
theorem pf_d (q : Addr) (d : Int) : (pf q d).lookup ("divisor" : Str) = some (.int d) := by
  unfold pf
  rw [lookup_putF, if_pos rfl]
section
variable (K : PySem.W.Frag)
abbrev CS : Addr := He.ga K "Straight"
abbrev CP : Addr := He.ga K "Place"
def StrAt (H : Hp) (p : Addr) (a b c : Int) : Prop := ∃ dx, H p = some (.ins (CS K) dx (sf a b c))
def PlcAt (H : Hp) (p : Addr) (a b c d : Int) : Prop := ∃ dx q, H p = some (.ins (CP K) dx (pf q d)) ∧ StrAt K H q a b c
/-- a sum, or an int in its place -/
def SumV (H : Hp) (v : V) (a b c : Int) : Prop := (∃ p, v = .ref p ∧ StrAt K H p a b c) ∨ (v = .int c ∧ a = 0 ∧ b = 0)
end
variable {K : PySem.W.Frag}
theorem StrAt.same {H H' : Hp} {p : Addr} {a b c : Int} (h : StrAt K H p a b c) (s : Same H H') : StrAt K H' p a b c := by
  obtain ⟨dx, h⟩ := h
  exact ⟨dx, s _ _ h⟩
theorem PlcAt.same {H H' : Hp} {p : Addr} {a b c d : Int} (h : PlcAt K H p a b c d) (s : Same H H') : PlcAt K H' p a b c d := by
  obtain ⟨dx, q, h, h2⟩ := h
  exact ⟨dx, q, s _ _ h, h2.same s⟩
theorem SumV.same {H H' : Hp} {v : V} {a b c : Int} (h : SumV K H v a b c) (s : Same H H') : SumV K H' v a b c := by
  rcases h with ⟨p, e, h⟩ | h
  · exact .inl ⟨p, e, h.same s⟩
  · exact .inr h
theorem StrAt.keep {H H' : Hp} {p q : Addr} {a b c : Int} {t : Nat} (h : StrAt K H p a b c) (hp : Pen H q t) (k : Keep q H H') : StrAt K H' p a b c := by
  obtain ⟨dx, h⟩ := h
  exact ⟨dx, k _ _ (hp.ne h fun _ z => by cases z) h⟩
theorem PlcAt.keep {H H' : Hp} {p q : Addr} {a b c d : Int} {t : Nat} (h : PlcAt K H p a b c d) (hp : Pen H q t) (k : Keep q H H') : PlcAt K H' p a b c d := by
  obtain ⟨dx, r, h, h2⟩ := h
  exact ⟨dx, r, k _ _ (hp.ne h fun _ z => by cases z) h, h2.keep hp k⟩
/-- small enough to be multiplied by anything -/
def Sm (i : Int) : Prop := -(2 ^ 64) < i ∧ i < 2 ^ 64
structure Inx (K : PySem.W.Frag) (C : Addr) : Prop where
  ha : PySem.W.findIn K (.ref C) "__class__" = some (some (.builtin "object.__class__"))
  hn : PySem.W.specialIn K (.builtin "object.__class__") "__get__" = some (some (.builtin "getset_descriptor.__get__"))
  ht : PySem.W.takesIn K (.builtin "object.__class__") = some true
  hm : PySem.W.mroIn K C (.type "object") = some true
structure StTx (K : PySem.W.Frag) (mg : Str → Option Value) : Prop where
  gS : mg "Straight" = some (.ref (CS K))
  clS : Cls K (CS K)
  mkS : Mk K (CS K) (He.ma K (CS K) "__init__")
  ixS : Inx K (CS K)
  nI : NoAttr K (CS K) "i"
  nN : NoAttr K (CS K) "n"
  nO : NoAttr K (CS K) "one"
  kSi : PySem.W.kitOne K (.ref (CS K)) (.type "int") = some false
  kSS : PySem.W.kitOne K (.ref (CS K)) (.ref (CS K)) = some true
  kiS : PySem.W.kitOne K (.type "int") (.ref (CS K)) = some false
  isi : mg "isinstance" = none
  int : mg "int" = none
  bool : mg "bool" = none
theorem StTx.ty {mg : Str → Option Value} (T : StTx K mg) {H : Hp} {p : Addr} {a b c : Int} (h : StrAt K H p a b c) : TyOf K H (.ref p) (.ref (CS K)) := by
  obtain ⟨dx, h⟩ := h
  exact .ins h T.clS T.ixS.ha T.ixS.hn T.ixS.ht T.ixS.hm
theorem kii {K : PySem.W.Frag} : PySem.W.kitOne K (.type "int") (.type "int") = some true := kit_ty (by decide +kernel)
theorem kib {K : PySem.W.Frag} : PySem.W.kitOne K (.type "int") (.type "bool") = some false := kit_ty (by decide +kernel)
section
variable (K : PySem.W.Frag)
def spSI : Sp := fun vs H Q _ => ∃ (p dx : Addr) (a b c : Int), vs = [.ref p, .int a, .int b, .int c] ∧ H p = some (.ins (CS K) dx []) ∧ ∀ H', H' p = some (.ins (CS K) dx (sf a b c)) → Keep p H H' → Q .non H'
/-- a new sum is handed back -/
def NewS (H : Hp) (a b c : Int) (Q : VK) : Prop := ∀ p H', Same H H' → H p = none → StrAt K H' p a b c → Q (.ref p) H'
def spIsInt : Sp := fun vs H Q _ => ∃ v, vs = [v] ∧ ((∃ i, v = .int i ∧ Q (.bl true) H) ∨ ∃ p a b c, v = .ref p ∧ StrAt K H p a b c ∧ Q (.bl false) H)
def spLike : Sp := fun vs H Q _ => ∃ v a b c, vs = [v] ∧ SumV K H v a b c ∧ ∀ p H', Same H H' → StrAt K H' p a b c → Q (.ref p) H'
def spVal : Sp := fun vs H Q _ => ∃ (p : Addr) (a b c i n : Int), vs = [.ref p, .int i, .int n] ∧ StrAt K H p a b c ∧ Sm a ∧ Sm b ∧ Q (.int (a * i + b * n + c)) H
end
end Z
set_option maxHeartbeats 4000000
namespace Z
open PySem PySem.Spec PyProof.Rows L2
end Z
set_option maxHeartbeats 4000000
namespace Z
open PySem PySem.Spec PyProof.Rows L2
def Bd (n : Nat) (x : Int) : Prop := x.natAbs < 2 ^ n
theorem Bd.mono {n m : Nat} {x : Int} (h : Bd n x) (e : n ≤ m) : Bd m x := Nat.lt_of_lt_of_le h (Nat.pow_le_pow_right (by decide) e)
theorem Bd.sub {n : Nat} {x y : Int} (h : Bd n x) (g : Bd n y) : Bd (n + 1) (x - y) := by
  unfold Bd at *
  rw [Nat.pow_succ]
  omega
theorem Bd.of {n : Nat} {x : Int} (N : Nat) (hN : N < 2 ^ n) (h1 : -(N : Int) ≤ x) (h2 : x ≤ (N : Int)) : Bd n x := by
  unfold Bd
  omega
end Z
set_option maxHeartbeats 4000000
namespace Z
open PySem PySem.Spec PyProof.Rows L2
section
variable {X : Cx} {CX : CXT} {k : Nat} {f C : Addr} {fd : FuncData} {ps : List Str} {sp : Sp} {E : XK}
theorem make_at {pins : List (Addr × Obj)} {σ : L2.St} {H : Hp} {s : Shared} {Q : VK} {us : List Value} {vs : List V} (M : Mk X.K C f) (F : FnOk X.prog X.w X.K X.mg X.base CX k f fd ps sp) (hr : Room (k + 1) X.A) (hb : Binds X.K fd ps [])
    (hx : PassesAt CX X σ E) (I : L2.Inv X pins σ H s) (r : Vals vs us)
    (h : ∀ x dx, H x = none → H dx = none → dx ≠ x → sp (.ref x :: vs) (upd (upd H dx (.own x)) x (.ins C dx [])) (fun v H2 => v = .non ∧ Q (.ref x) H2) E) :
    wpAny (model X.prog X.w) X.A (call (.ref C) us) (EP X pins σ Q) X.xe s := by
  have q0 := h (s.heap.objs.size + 1) s.heap.objs.size (I.hok.fresh (Nat.le_succ _)) (I.hok.fresh (Nat.le_refl _)) (Nat.ne_of_lt (Nat.lt_succ_self _))
  have J := Inv.made (C := C) I
  have rr : Vals (V.ref (s.heap.objs.size + 1) :: vs) (Value.ref (s.heap.objs.size + 1) :: us) := .cons rfl r
  have len : (Value.ref (s.heap.objs.size + 1) :: us).length = ps.length := by
    have e := rr.length
    rw [F.len _ _ _ _ q0] at e
    exact e.symm
  have bb := hb _ (Value.ref (s.heap.objs.size + 1) :: us) J.kIn (by rw [List.append_nil]; exact len)
  rw [List.append_nil] at bb
  refine wpAny_call (make_map (f := f) I.kIn M.makes M.init (beq_iff_eq.mp M.fn) (codeAny_mono (F.run _ X.stack _ _ ⟨Value.ref (s.heap.objs.size + 1) :: us, []⟩ (Value.ref (s.heap.objs.size + 1) :: us) _ _ E (hr.make C us [])
    (J.env0.make C us []) bb rr q0) fun r' s' z => ?_))
  cases r' with
  | error e => exact hx pins _ _ e s' J z
  | ok fl =>
    cases fl with
    | ret u =>
      obtain ⟨v, H', I3, rv, ev, q3⟩ := J.after z
      subst ev
      exact ⟨rv, ⟨V.ref (s.heap.objs.size + 1), H', I3, rfl, q3⟩⟩
    | next => exact False.elim z
    | brk => exact False.elim z
    | cont => exact False.elim z
theorem at_E0 (σ : L2.St) : PassesAt (L2.CX X.prog X.w) X σ E0 := fun pins H s e s' I h => passL pins σ H s e s' I h
end
def spErr (K : PySem.W.Frag) (x : Str) (fs : List Str) : Sp := fun vs H Q _ => ∃ (a : Addr) (ws : List V), vs = .ref a :: ws ∧ ws.length = fs.length ∧ H a = some (exo a (He.ga K x) none) ∧
  ∀ (d : Addr) (H' : Hp), H d = none → H' a = some (exo a (He.ga K x) (some d)) → H' d = some (exd d (fs.zip ws).reverse) → Keep a H H' → Q .non H'
structure EC (K : PySem.W.Frag) (mg : Str → Option Value) (x : Str) (fs : List Str) : Prop where
  gC : mg x = some (.ref (He.ga K x))
  ox : OexC K (He.ga K x)
  ex : Exk K (He.ga K x)
  iC : PySem.W.findIn K (.ref (He.ga K x)) "__init__" = some (some (.ref (He.ma K (He.ga K x) "__init__")))
  tI : PySem.W.typeIn K (.ref (He.ma K (He.ga K x) "__init__")) = some (.type "function")
  na : ∀ f ∈ fs, PySem.W.findIn K (.ref (He.ga K x)) f = some none
theorem list2 {ws : List V} (h : ws.length = 2) : ∃ y z, ws = [y, z] := match ws, h with | [y, z], _ => ⟨y, z, rfl⟩
theorem list1 {ws : List V} (h : ws.length = 1) : ∃ y, ws = [y] := match ws, h with | [y], _ => ⟨y, rfl⟩
theorem list3 {ws : List V} (h : ws.length = 3) : ∃ y z u, ws = [y, z, u] := match ws, h with | [y, z, u], _ => ⟨y, z, u, rfl⟩
section
variable {K : PySem.W.Frag} {mg : Str → Option Value} {x f1 f2 f3 n0 n1 n2 n3 : Str} {vs : List V} {H : Hp} {Q : VK} {E : XK}
theorem keep1 {a d : Addr} {o u : HO} (hd : H d = none) : Keep a H (upd (upd H d o) a u) := Keep.upd _ (Keep.new _ (Keep.refl a H) hd)
theorem rd_err1 (M : EC K mg x [f1]) (h : spErr K x [f1] vs H Q E) :
    tOst K f1 (tVar 0) (tVar 1) { nx := fun _ H' => Q .non H', rt := Q } (L2.start [n0, n1] vs) H := by
  obtain ⟨a, ws, rfl, hl, ha, k⟩ := h
  obtain ⟨y, rfl⟩ := list1 hl
  refine ⟨_, rfl, _, rfl, a, _, rfl, M.ox, M.na _ (by simp), .inl ⟨ha, fun d hd nd => ?_⟩⟩
  exact k d _ hd upd_same (by rw [upd_ne nd, upd_same]; rfl) (keep1 hd)
theorem rd_err2 (M : EC K mg x [f1, f2]) (h : spErr K x [f1, f2] vs H Q E) :
    tSeq (tOst K f1 (tVar 0) (tVar 1)) (tOst K f2 (tVar 0) (tVar 2)) { nx := fun _ H' => Q .non H', rt := Q } (L2.start [n0, n1, n2] vs) H := by
  obtain ⟨a, ws, rfl, hl, ha, k⟩ := h
  obtain ⟨y, z, rfl⟩ := list2 hl
  refine ⟨_, rfl, _, rfl, a, _, rfl, M.ox, M.na _ (by simp), .inl ⟨ha, fun d hd nd => ?_⟩⟩
  refine ⟨_, rfl, _, rfl, a, _, rfl, M.ox, M.na _ (by simp), .inr ⟨d, [(f1, y)], upd_same, (by rw [upd_ne nd, upd_same]), (by show 1 ≤ 900; decide), ?_⟩⟩
  refine k d _ hd (by rw [upd_ne nd.symm, upd_same]) upd_same fun b u nb e => ?_
  rw [upd_ne (ne_of_none e hd)]
  exact keep1 hd b u nb e
theorem rd_err3 (M : EC K mg x [f1, f2, f3]) (h : spErr K x [f1, f2, f3] vs H Q E) :
    tSeq (tOst K f1 (tVar 0) (tVar 1)) (tSeq (tOst K f2 (tVar 0) (tVar 2)) (tOst K f3 (tVar 0) (tVar 3))) { nx := fun _ H' => Q .non H', rt := Q } (L2.start [n0, n1, n2, n3] vs) H := by
  obtain ⟨a, ws, rfl, hl, ha, k⟩ := h
  obtain ⟨y, z, u, rfl⟩ := list3 hl
  refine ⟨_, rfl, _, rfl, a, _, rfl, M.ox, M.na _ (by simp), .inl ⟨ha, fun d hd nd => ?_⟩⟩
  refine ⟨_, rfl, _, rfl, a, _, rfl, M.ox, M.na _ (by simp), .inr ⟨d, [(f1, y)], upd_same, (by rw [upd_ne nd, upd_same]), (by show 1 ≤ 900; decide), ?_⟩⟩
  refine ⟨_, rfl, _, rfl, a, _, rfl, M.ox, M.na _ (by simp), .inr ⟨d, [(f2, z), (f1, y)], (by rw [upd_ne nd.symm, upd_same]), upd_same, (by show 2 ≤ 900; decide), ?_⟩⟩
  refine k d _ hd (by rw [upd_ne nd.symm, upd_ne nd.symm, upd_same]) upd_same fun b v nb e => ?_
  rw [upd_ne (ne_of_none e hd), upd_ne (ne_of_none e hd)]
  exact keep1 hd b v nb e
end
/-- an error class that may be raised -/
def Mx (P : Program) (w : World) (K : PySem.W.Frag) (mg : Str → Option Value) (base : Heap) (x : Str) (ps fs : List Str) : Prop :=
  EC K mg x fs ∧ ∃ fd, FnOk P w K mg base CX0 1 (He.ma K (He.ga K x) "__init__") fd ps (spErr K x fs) ∧ Binds K fd ps []
section
variable {X : Cx} {e : Expr} {es : List Expr} {t : TA} {p pos pos2 : Pos} {W : WX}
theorem pmk_err {k : Nat} {x : Str} {ps fs : List Str} (M : Mx X.prog X.w X.K X.mg X.base x ps fs) (hr : Room k X.A) (ha : PA X (e :: es) t) (hk : 2 ≤ k := by decide) (hg : Gl X x := by rfl)
    (hdb : (x == ("__debug__" : Str)) = false := by decide) (he : starEach (e :: es) X.env = (false, eval e X.env) :: starEach es X.env := by rfl) (hpl : (backTo pos (starEach es X.env)).any (·.1) = false := by rfl) :
    PMk X (.Call (.Name x p) (e :: es) [] pos) (tMkO (He.ga X.K x) (spErr X.K x fs) [] t) := by
  obtain ⟨T, fd, F, hb⟩ := M
  exact pmk_oex (CX := CX0) (dvs := []) (ds := []) T.ox T.iC T.tI F (hr.mono hk) hb .nil pass0 hg T.gC ha hdb he hpl
/-- the reading of such a raise behind its arguments: the new dict holds the fields, all else is as it was -/
theorem err_go {K : PySem.W.Frag} {x : Str} {fs : List Str} {vs : List V} {H1 : Hp} {Q : XK} (hl : vs.length ≤ 1000) (hlf : vs.length = fs.length)
    (w : ∀ d H', Same H1 H' → H' d = some (.xd (fs.zip vs).reverse) → Q (.ref (He.ga K x)) (some d) H') :
    vs.length ≤ 1000 ∧ ∀ a, H1 a = none → spErr K x fs (.ref a :: (vs ++ [])) (upd H1 a (exo a (He.ga K x) none))
      (fun v H2 => v = .non ∧ ∃ (d : Addr) (fs' : List (Str × V)), H2 a = some (exo a (He.ga K x) (some d)) ∧ H2 d = some (exd d fs') ∧ H1 d = none ∧ Q (.ref (He.ga K x)) (some d) (upd (del H2 a) d (.xd fs'))) (fun _ _ _ => False) := by
  refine ⟨hl, fun a ha => ?_⟩
  rw [List.append_nil]
  refine ⟨a, vs, rfl, hlf, upd_same, fun d H' hd hA hD kp => ⟨rfl, d, _, hA, hD, ?_, w d _ (fun b u e => ?_) upd_same⟩⟩
  · have n : d ≠ a := fun z => by
      rw [z, upd_same] at hd
      cases hd
    rw [upd_ne n] at hd
    exact hd
  · have nb : b ≠ a := ne_of_none e ha
    have nd : b ≠ d := fun z => by
      rw [← z, upd_ne nb] at hd
      rw [hd] at e
      cases e
    rw [upd_ne nd, del_ne nb]
    exact kp b u nb (by rw [upd_ne nb]; exact e)
end
def gg (a b d : Int) : Nat := Nat.gcd (Nat.gcd a.natAbs b.natAbs) d.natAbs
abbrev CB (K : PySem.W.Frag) : Addr := He.ga K "BadNumber"
structure PlTx (K : PySem.W.Frag) (mg : Str → Option Value) : Prop extends StTx K mg where
  gP : mg "Place" = some (.ref (CP K))
  clP : Cls K (CP K)
  mkP : Mk K (CP K) (He.ma K (CP K) "__init__")
  ixP : Inx K (CP K)
  nS : NoAttr K (CP K) "straight"
  nD : NoAttr K (CP K) "divisor"
  gcd : mg "gcd" = some (.builtin "math.gcd")
  kPP : PySem.W.kitOne K (.ref (CP K)) (.ref (CP K)) = some true
  kPS : PySem.W.kitOne K (.ref (CP K)) (.ref (CS K)) = some false
  kSP : PySem.W.kitOne K (.ref (CS K)) (.ref (CP K)) = some false
  kiP : PySem.W.kitOne K (.type "int") (.ref (CP K)) = some false
theorem PlTx.pty {K : PySem.W.Frag} {mg : Str → Option Value} (T : PlTx K mg) {H : Hp} {p : Addr} {a b c d : Int} (h : PlcAt K H p a b c d) : TyOf K H (.ref p) (.ref (CP K)) := by
  obtain ⟨dx, q, h, _⟩ := h
  exact .ins h T.clP T.ixP.ha T.ixP.hn T.ixP.ht T.ixP.hm
def bnF (w : Str) (v : V) : List (Str × V) := [("number", v), ("what", .str w)]
section
variable (K : PySem.W.Frag)
/-- the place that is made of a sum and a divisor -/
def NewP (H : Hp) (a b c d : Int) (Q : VK) : Prop := ∀ p H', Same H H' → PlcAt K H' p (a.fdiv (gg a b d)) (b.fdiv (gg a b d)) (c.fdiv (gg a b d)) (d.fdiv (gg a b d)) → Q (.ref p) H'
def BadN (H : Hp) (w : Str) (v : V) (E : XK) : Prop := ∀ e H', Same H H' → H' e = some (.xd (bnF w v)) → E (.ref (CB K)) (some e) H'
def spPCall : Sp := fun vs H Q _ => ∃ (p : Addr) (a b c d i n : Int), vs = [.ref p, .int i, .int n] ∧ PlcAt K H p a b c d ∧ Sm a ∧ Sm b ∧ 0 < d ∧ d < 1073741824 ∧ Q (.int ((a * i + b * n + c).fdiv d)) H
end
end Z
namespace Z
theorem fe {x g : Int} (h : 0 < g) : x.fdiv g = x / g := Int.fdiv_eq_ediv_of_nonneg _ (Int.le_of_lt h)
theorem gg_pos {a b d : Int} (h : 0 < d) : 0 < gg a b d := Nat.gcd_pos_of_pos_right _ (by omega)
theorem gg_le {a b d : Int} (h : 0 < d) : ((gg a b d : Nat) : Int) ≤ d := by
  have := Nat.le_of_dvd (by omega) (Nat.gcd_dvd_right (Nat.gcd a.natAbs b.natAbs) d.natAbs)
  show ((Nat.gcd (Nat.gcd a.natAbs b.natAbs) d.natAbs : Nat) : Int) ≤ d
  omega
theorem gg_dvd (a b d : Int) : ∃ a' b' d', a = (gg a b d : Int) * a' ∧ b = (gg a b d : Int) * b' ∧ d = (gg a b d : Int) * d' := by
  have h1 : ((gg a b d : Nat) : Int) ∣ a := Int.ofNat_dvd_left.mpr (Nat.dvd_trans (Nat.gcd_dvd_left _ _) (Nat.gcd_dvd_left _ _))
  have h2 : ((gg a b d : Nat) : Int) ∣ b := Int.ofNat_dvd_left.mpr (Nat.dvd_trans (Nat.gcd_dvd_left _ _) (Nat.gcd_dvd_right _ _))
  have h3 : ((gg a b d : Nat) : Int) ∣ d := Int.ofNat_dvd_left.mpr (Nat.gcd_dvd_right _ _)
  exact ⟨_, _, _, h1.choose_spec, h2.choose_spec, h3.choose_spec⟩
theorem fmul {g x : Int} (h : 0 < g) : (g * x).fdiv g = x := by
  rw [fe h]
  exact Int.mul_ediv_cancel_left _ (by omega)
theorem fdiv_bd {x M g : Int} (h : 0 < g) (hM : 0 ≤ M) (h1 : -M ≤ x) (h2 : x ≤ M) : -M ≤ x.fdiv g ∧ x.fdiv g ≤ M := by
  rw [fe h]
  have z : M ≤ M * g := by
    have := Int.mul_le_mul_of_nonneg_left (show (1 : Int) ≤ g by omega) hM
    omega
  have z2 : -M * g ≤ x := by
    rw [Int.neg_mul]
    omega
  refine ⟨Int.le_ediv_of_mul_le h z2, ?_⟩
  exact Int.ediv_le_of_le_mul h (by omega)
/-- the divisor of the least form is from 1 on and not above d -/
theorem dv_bd {a b d : Int} (h : 0 < d) : 1 ≤ d.fdiv (gg a b d) ∧ d.fdiv (gg a b d) ≤ d := by
  have g0 : (0 : Int) < (gg a b d : Nat) := by exact_mod_cast gg_pos h
  refine ⟨?_, (fdiv_bd g0 (Int.le_of_lt h) (by omega) (Int.le_refl d)).2⟩
  rw [fe g0]
  exact Int.le_ediv_of_mul_le g0 (by rw [Int.one_mul]; exact gg_le h)
/-- the value of the least form -/
theorem val_least {a b c d i n : Int} (h : 0 < d) : ((a.fdiv (gg a b d)) * i + (b.fdiv (gg a b d)) * n + c.fdiv (gg a b d)).fdiv (d.fdiv (gg a b d)) = (a * i + b * n + c).fdiv d := by
  have dv := dv_bd (a := a) (b := b) h
  obtain ⟨a', b', d', ha, hb, hd⟩ := gg_dvd a b d
  have g0 : (0 : Int) < (gg a b d : Nat) := by exact_mod_cast gg_pos h
  generalize ((gg a b d : Nat) : Int) = g at *
  have e1 : a.fdiv g = a' := by rw [ha]; exact fmul g0
  have e2 : b.fdiv g = b' := by rw [hb]; exact fmul g0
  have e3 : d.fdiv g = d' := by rw [hd]; exact fmul g0
  rw [e3] at dv
  rw [e1, e2, e3, fe (show 0 < d' by omega), fe g0, fe h]
  have e4 : a * i + b * n + c = c + g * (a' * i + b' * n) := by
    rw [ha, hb, Int.mul_add, Int.mul_assoc, Int.mul_assoc]
    omega
  have e5 : a' * i + b' * n + c / g = (c + g * (a' * i + b' * n)) / g := by
    rw [Int.add_mul_ediv_left _ _ (by omega)]
    omega
  rw [e4, e5, hd, Int.ediv_ediv_of_nonneg (Int.le_of_lt g0)]
end Z
set_option maxHeartbeats 4000000
namespace Z
open PySem PySem.Spec PyProof.Rows L2
def g2 (a b : Int) : Nat := Nat.gcd a.natAbs b.natAbs
def lf3 (a b c : Int) : Int := if g2 a b = 0 then (if 0 ≤ c then 0 else -1) else c.fdiv (g2 a b)
theorem g2_le {a b : Int} {N : Nat} (ha : a.natAbs ≤ N) (hb : b.natAbs ≤ N) : g2 a b ≤ N := by
  unfold g2
  by_cases h : a.natAbs = 0
  · rw [h, Nat.gcd_zero_left]
    exact hb
  · exact Nat.le_trans (Nat.le_of_dvd (by omega) (Nat.gcd_dvd_left _ _)) ha
theorem g2_zero {a b : Int} (h : g2 a b = 0) : a = 0 ∧ b = 0 := by
  unfold g2 at h
  have h1 := Nat.eq_zero_of_gcd_eq_zero_left h
  have h2 := Nat.eq_zero_of_gcd_eq_zero_right h
  omega
/-- the least form tells the same -/
theorem least_form {a b c i n : Int} : decide (0 ≤ (a.fdiv (g2 a b)) * i + (b.fdiv (g2 a b)) * n + lf3 a b c) = decide (0 ≤ a * i + b * n + c) := by
  unfold lf3
  by_cases h : g2 a b = 0
  · obtain ⟨rfl, rfl⟩ := g2_zero h
    rw [if_pos h, Int.zero_fdiv, Int.zero_mul, Int.zero_mul]
    by_cases hc : 0 ≤ c
    · rw [if_pos hc]
      exact decide_eq_decide.mpr (by omega)
    · rw [if_neg hc]
      exact decide_eq_decide.mpr (by omega)
  · rw [if_neg h]
    have h1 : ((g2 a b : Nat) : Int) ∣ a := Int.ofNat_dvd_left.mpr (Nat.gcd_dvd_left _ _)
    have h2 : ((g2 a b : Nat) : Int) ∣ b := Int.ofNat_dvd_left.mpr (Nat.gcd_dvd_right _ _)
    obtain ⟨a', ha⟩ := h1
    obtain ⟨b', hb⟩ := h2
    have g0 : (0 : Int) < (g2 a b : Nat) := by omega
    generalize ((g2 a b : Nat) : Int) = g at *
    have e1 : a.fdiv g = a' := by rw [ha]; exact fmul g0
    have e2 : b.fdiv g = b' := by rw [hb]; exact fmul g0
    rw [e1, e2, fe g0]
    have e4 : a * i + b * n + c = c + g * (a' * i + b' * n) := by
      rw [ha, hb, Int.mul_add, Int.mul_assoc, Int.mul_assoc]
      omega
    have e5 : a' * i + b' * n + c / g = (c + g * (a' * i + b' * n)) / g := by
      rw [Int.add_mul_ediv_left _ _ (by omega)]
      omega
    rw [e4, e5]
    exact decide_eq_decide.mpr (Int.ediv_nonneg_iff_of_pos g0)
theorem fm {x m : Int} (h : 0 < m) : x.fmod m = x % m := Int.fmod_eq_emod_of_nonneg _ (Int.le_of_lt h)
theorem rest_form {a b c m r i n : Int} (hm : 2 ≤ m) (hm2 : m ≤ 4) (r0 : 0 ≤ r) (r1 : r ≤ m - 1) : decide (((a.fmod m) * i + (b.fmod m) * n + 0).fmod m = (r - c).fmod m) = decide ((a * i + b * n + c).fmod m = r) := by
  have m0 : 0 < m := by omega
  rw [fm m0, fm m0, fm m0, fm m0, fm m0]
  have e : a * i + b * n = (a % m * i + b % m * n) + m * (a / m * i + b / m * n) := by
    have e1 : a * i = a % m * i + m * (a / m * i) := by
      rw [← Int.mul_assoc, ← Int.add_mul, Int.emod_add_mul_ediv]
    have e2 : b * n = b % m * n + m * (b / m * n) := by
      rw [← Int.mul_assoc, ← Int.add_mul, Int.emod_add_mul_ediv]
    rw [Int.mul_add]
    omega
  rw [e]
  generalize a % m * i + b % m * n = y
  generalize a / m * i + b / m * n = k
  refine decide_eq_decide.mpr ?_
  have h3 : m = 2 ∨ m = 3 ∨ m = 4 := by omega
  rcases h3 with z | z | z <;> subst z <;> omega
section
variable (K : PySem.W.Frag)
abbrev CA : Addr := He.ga K "AtLeast"
abbrev CR : Addr := He.ga K "Rest"
def af (q : Addr) : List (Str × V) := putF "straight" (.ref q) []
def rf (q : Addr) (m r : Int) : List (Str × V) := putF "rest" (.int r) (putF "modulus" (.int m) (putF "straight" (.ref q) []))
def AtlAt (H : Hp) (p : Addr) (a b c : Int) : Prop := ∃ dx q, H p = some (.ins (CA K) dx (af q)) ∧ StrAt K H q a b c
def RstAt (H : Hp) (p : Addr) (a b m r : Int) : Prop := ∃ dx q, H p = some (.ins (CR K) dx (rf q m r)) ∧ StrAt K H q a b 0
end
theorem sm_ : ¬ (("straight" : Str) = "modulus") := by decide +kernel
theorem sr_ : ¬ (("straight" : Str) = "rest") := by decide +kernel
theorem mr_ : ¬ (("modulus" : Str) = "rest") := by decide +kernel
theorem af_s (q : Addr) : (af q).lookup ("straight" : Str) = some (.ref q) := by
  unfold af
  rw [lookup_putF, if_pos rfl]
theorem af_no (q : Addr) {m : Str} (h1 : ¬ m = "straight") : (af q).lookup m = none := by
  unfold af
  rw [lookup_putF, if_neg h1]
  rfl
theorem rf_s (q : Addr) (m r : Int) : (rf q m r).lookup ("straight" : Str) = some (.ref q) := by
  unfold rf
  rw [lookup_putF, if_neg sr_, lookup_putF, if_neg sm_, lookup_putF, if_pos rfl]
theorem rf_m (q : Addr) (m r : Int) : (rf q m r).lookup ("modulus" : Str) = some (.int m) := by
  unfold rf
  rw [lookup_putF, if_neg mr_, lookup_putF, if_pos rfl]
theorem rf_r (q : Addr) (m r : Int) : (rf q m r).lookup ("rest" : Str) = some (.int r) := by
  unfold rf
  rw [lookup_putF, if_pos rfl]
theorem rf_no (q : Addr) (k r : Int) {m : Str} (h1 : ¬ m = "straight") (h2 : ¬ m = "modulus") (h3 : ¬ m = "rest") : (rf q k r).lookup m = none := by
  unfold rf
  rw [lookup_putF, if_neg h3, lookup_putF, if_neg h2, lookup_putF, if_neg h1]
  rfl
variable {K : PySem.W.Frag}
theorem AtlAt.same {H H' : Hp} {p : Addr} {a b c : Int} (h : AtlAt K H p a b c) (s : Same H H') : AtlAt K H' p a b c := by
  obtain ⟨dx, q, h, h2⟩ := h
  exact ⟨dx, q, s _ _ h, h2.same s⟩
theorem RstAt.same {H H' : Hp} {p : Addr} {a b m r : Int} (h : RstAt K H p a b m r) (s : Same H H') : RstAt K H' p a b m r := by
  obtain ⟨dx, q, h, h2⟩ := h
  exact ⟨dx, q, s _ _ h, h2.same s⟩
theorem AtlAt.keep {H H' : Hp} {p q : Addr} {a b c : Int} {t : Nat} (h : AtlAt K H p a b c) (hp : Pen H q t) (k : Keep q H H') : AtlAt K H' p a b c := by
  obtain ⟨dx, r, h, h2⟩ := h
  exact ⟨dx, r, k _ _ (hp.ne h fun _ z => by cases z) h, h2.keep hp k⟩
theorem RstAt.keep {H H' : Hp} {p q : Addr} {a b m r : Int} {t : Nat} (h : RstAt K H p a b m r) (hp : Pen H q t) (k : Keep q H H') : RstAt K H' p a b m r := by
  obtain ⟨dx, r, h, h2⟩ := h
  exact ⟨dx, r, k _ _ (hp.ne h fun _ z => by cases z) h, h2.keep hp k⟩
section
variable (K : PySem.W.Frag)
def NewA (H : Hp) (a b c : Int) (Q : VK) : Prop := ∀ p H', Same H H' → AtlAt K H' p a b c → Q (.ref p) H'
def NewR (H : Hp) (a b m r : Int) (Q : VK) : Prop := ∀ p H', Same H H' → RstAt K H' p a b m r → Q (.ref p) H'
def spIntFrom : Sp := fun vs H Q _ => ∃ v lo hi : Int, vs = [.int v, .int lo, .int hi] ∧ Q (.bl (decide (lo ≤ v ∧ v ≤ hi))) H
def spAI : Sp := fun vs H Q _ => ∃ (p dx : Addr) (v : V) (a b c : Int), vs = [.ref p, v] ∧ H p = some (.ins (CA K) dx []) ∧ SumV K H v a b c ∧ g2 a b < 1073741824 ∧
  ∀ q H', H' p = some (.ins (CA K) dx (af q)) → StrAt K H' q (a.fdiv (g2 a b)) (b.fdiv (g2 a b)) (lf3 a b c) → Keep p H H' → Q .non H'
/-- what Rest(v, m, r) asks -/
def rRst (v : V) (m r : Int) (H : Hp) (ok : Int → Int → Int → Prop) (E : XK) : Prop := ∃ a b c, SumV K H v a b c ∧ (¬ (2 ≤ m ∧ m ≤ 4) → BadN K H "modulus" (.int m) E) ∧ (2 ≤ m → m ≤ 4 → ¬ (0 ≤ r ∧ r ≤ m - 1) → BadN K H "rest" (.int r) E) ∧ (2 ≤ m → m ≤ 4 → 0 ≤ r → r ≤ m - 1 → ok a b c)
def spRI : Sp := fun vs H Q E => ∃ (p dx : Addr) (v : V) (m r : Int), vs = [.ref p, v, .int m, .int r] ∧ H p = some (.ins (CR K) dx []) ∧
  rRst K v m r H (fun a b c => ∀ q H', H' p = some (.ins (CR K) dx (rf q m ((r - c).fmod m))) → StrAt K H' q (a.fmod m) (b.fmod m) 0 → Keep p H H' → Q .non H') E
end
end Z
set_option maxHeartbeats 4000000
namespace Z
open PySem PySem.Spec PyProof.Rows L2
section
variable {prog : Program} {w : World} {A : Around} {E : Value → Shared → Prop} {s : Shared} {x C : Addr} {K : PySem.W.Frag} {ox : Obj} {od : Option Obj} {name : Str} {pl : Sem Bool} {Q : Value × List Value → Shared → Prop}
/-- x.m(..) where m is no name of the class: what the field holds is called -/
theorem method_fld (X : K.In s.heap) (I : PySem.W.InstAt s.heap x ox C od) (hga : PySem.W.findIn K (.ref C) "__getattribute__" = some (some (.builtin "object.__getattribute__"))) (hk : PySem.W.findIn K (.ref C) "__getattr__" = some none)
    (hf : PySem.W.findIn K (.ref C) name = some none) (h : wpAny (model prog w) A (getAttr (.ref x) name) (fun u s' => Q (u, []) s') E s) : wpAny (model prog w) A (getMethod (.ref x) name pl) Q E s := by
  have hcan := PySem.F.canon_object_ga
  unfold getMethod specialOf
  refine wpAny_bind (wpAny_bind (I.type.here ((PySem.W.looks_findIn X hga).here ?_)))
  dsimp only
  rw [hcan, if_neg (by decide)]
  refine wpAny_bind (wpAny_bind (I.type.here ((PySem.W.looks_findIn X hk).here ?_)))
  refine wpAny_bind (wpAny_bind (I.type.here ((PySem.W.looks_findIn X hf).here ?_)))
  exact wpAny_bind (wpAny_mono h (fun u s' q => wpAny_pure q) fun _ _ z => z)
end
section
variable {X : Cx} {CX : CXT} {k : Nat} {g C2 : Addr} {sp : Sp} {E : XK} {o e : Expr} {es : List Expr} {m : Str} {apos pos : Pos} {ta : TE} {t : TA} {pl : Sem Bool}
/-- o.f(e, ..), f a field that holds an instance of C2 -/
def tFCall (X : Cx) (C2 : Addr) (m : Str) (sp : Sp) (E : XK) (ta : TE) (t : TA) : TE := fun σ H Q => ta σ H fun x H1 => ∃ a C dx fs q, x = .ref a ∧ H1 a = some (.ins C dx fs) ∧ Cls X.K C ∧ NoAttr X.K C m ∧ fs.lookup m = some (.ref q) ∧ t σ H1 fun vs H2 => (∃ dx fs, H2 q = some (.ins C2 dx fs)) ∧ sp (.ref q :: vs) H2 Q E
theorem pe_fcall (he : PE X o ta) (c : StX.CallO X.K C2 g) (F : FnR X.prog X.w X.K X.mg X.base CX k g sp) (hr : Room k X.A) (hx : Passes CX X E) (ha : PA X (e :: es) t)
    (ht : eval (.Call (.Attribute o m apos) (e :: es) [] pos) X.env = (do
      let ov ← eval o X.env
      standAt apos.atName
      let (f, first) ← holding [ov] (getMethod ov m pl)
      callWith pos f first (backTo pos (starEach (e :: es) X.env)) (backToKw pos (keywordEach [] X.env))) := by rfl)
    (hst : starEach (e :: es) X.env = (false, eval e X.env) :: starEach es X.env := by rfl) (hpl : (backTo pos (starEach es X.env)).any (·.1) = false := by rfl) :
    PE X (.Call (.Attribute o m apos) (e :: es) [] pos) (tFCall X C2 m sp E ta t) := by
  refine ⟨fun pins s σ H Q I h => ?_⟩
  refine PySem.W.methodCall_KW (pl := pl) (thn (he.run pins s σ H _ I h) fun u s1 ⟨x, H1, I1, rx, a, C, dx, fs, q, ex, ea, cl, na, l, q1⟩ => ?_) ht
  subst ex
  obtain rfl : u = Value.ref a := rx
  obtain ⟨od, J⟩ := ins_at I1 ea
  refine method_fld I1.kIn J (PySem.W.plainGet_of (cl.get m)).1 (PySem.W.plainGet_of (cl.get m)).2 na (getattr_ok I1 ea cl na l fun u' s2 I2 ru => ?_)
  obtain rfl : u' = Value.ref q := ru
  refine StX.callO_with (thn (ha.run pos pins s2 σ H1 _ I2 q1) fun us s3 ⟨vs, H2, I3, r, hi, q2⟩ => ?_) hst hpl
  have hi2 : StX.InsC X H2 q C2 := .inr hi
  obtain ⟨ox, od, J, hd⟩ := StX.insC_at I3 hi2
  exact ⟨⟨C2, ox, od, J, hd⟩, StX.run_callO c F hr hx I3 hi2 r q2⟩
end
end Z
namespace Z
open PySem PySem.Spec PyProof.Rows L2
section
variable {X : Cx} {K : PySem.W.Frag} {CX : CXT} {k : Nat} {f C : Addr} {fd : FuncData} {ps : List Str} {sp : Sp} {o e : Expr} {es : List Expr} {m : Str} {apos pos : Pos} {ta : TE} {t : TA} {pl : Sem Bool} {W : WX}
/-- o.m(e, ..) in a try, m a method that may raise -/
theorem pe_methT (tk : Takes X W) (hK : X.K = K) (he : PE X o ta) (c : Cls K C) (hm : Meth K C m f) (F : FnOk X.prog X.w K X.mg X.base (L2.CX X.prog X.w) k f fd ps sp) (hr : Room k X.A) (hb : Binds K fd ps []) (ha : PA X (e :: es) t)
    (ht : eval (.Call (.Attribute o m apos) (e :: es) [] pos) X.env = (do
      let ov ← eval o X.env
      standAt apos.atName
      let (f, first) ← holding [ov] (getMethod ov m pl)
      callWith pos f first (backTo pos (starEach (e :: es) X.env)) (backToKw pos (keywordEach [] X.env))) := by rfl)
    (hst : starEach (e :: es) X.env = (false, eval e X.env) :: starEach es X.env := by rfl) (hpl : (backTo pos (starEach es X.env)).any (·.1) = false := by rfl) :
    PE X (.Call (.Attribute o m apos) (e :: es) [] pos) (fun σ H Q => ta σ H fun x H1 => ∃ a dx fs, x = .ref a ∧ H1 a = some (.ins C dx fs) ∧ fs.lookup m = none ∧ t σ H1 fun vs H2 => sp (x :: vs) H2 Q (WE W σ)) := by
  subst hK
  refine ⟨fun pins s σ H Q I h => ?_⟩
  refine PySem.W.methodCall_KW (pl := pl) (thn (he.run pins s σ H _ I h) fun u s1 ⟨x, H1, I1, rx, a, dx, fs, ex, ea, l, q⟩ => ?_) ht
  subst ex
  obtain rfl : u = Value.ref a := rx
  refine getmeth_ok I1 ea c hm l ?_
  refine PySem.W.callWith_K (first := [.ref a]) (h₀ := X.base) I.ok.mod.kin hm.kp (thn (ha.run pos pins s1 σ H1 _ I1 q) fun us s2 ⟨vs, H2, I2, r, q2⟩ => ⟨I2.kIn, ?_⟩) hst hpl
  exact run_fnS (E := WE W) (us := .ref a :: us) (vs := .ref a :: vs) F hr hb (passAt tk σ) I2 (.cons rfl r) q2
end
end Z
set_option maxHeartbeats 4000000
namespace Z
open PySem PySem.Spec PyProof.Rows L2
/-- the ends of a suite behind which slot i is bare -/
def bare (i : Nat) (D : Ends) : Ends := { nx := fun σ' H' => D.nx (σ'.set i none) H', rt := D.rt, bk := fun σ' H' => D.bk (σ'.set i none) H', ct := fun σ' H' => D.ct (σ'.set i none) H' }
abbrev Clause : Type := Value × Nat × (Addr → Value → Option Addr → TS)
def wClauses (K : PySem.W.Frag) (Wout : WX) (D : Ends) : List Clause → WX
  | [] => Wout
  | q :: r => fun cls d σ H => ∃ b, PySem.W.exmOne K cls q.1 = some b ∧ (b = true → ∀ a, H a = none → q.2.2 a cls d (bare q.2.1 D) (σ.set q.2.1 (some (.ref a))) H) ∧ (b = false → wClauses K Wout D r cls d σ H)
inductive Clauses (X : Cx) : List ExceptHandler → List Clause → Prop
  | nil : Clauses X [] []
  | cons {x n : Str} {c : Value} {i : Nat} {ts : Addr → Value → Option Addr → TS} {b₀ : Stmt} {suite : List Stmt} {np q : Pos} {hds : List ExceptHandler} {l : List Clause} (hi : X.N[i]? = some n) (hl : X.env.kindOf n = some .local) (hc : Names X x c)
      (hsu : ∀ (a : Addr) (oe : Obj) (cls : Value) (d : Option Addr) (pn : List (Addr × Obj)), Zc cls d oe → (∃ vs, oe.data = .fields vs) → PSs (X.suite a ((a, oe) :: pn)) (b₀ :: suite) (ts a cls d)) (r : Clauses X hds l) :
      Clauses X (.ExceptHandler (some (.Name x np)) (some n) (b₀ :: suite) q :: hds) ((c, i, ts) :: l)
section
variable {X : Cx} {body : List Stmt} {h₀ : ExceptHandler} {hds : List ExceptHandler} {l : List Clause} {pos : Pos} {tb : WX → TS} {Wout : WX}
theorem ps_try_asMany (hs : X.stack = X.env :: X.outer) (hf : X.env.frame = some X.env.locals) (hN : X.N.Nodup) (tk : Takes X Wout)
    (hb : ∀ (W : WX) (pn : List (Addr × Obj)) (xe : Value → Shared → Prop), Takes (X.tr pn xe) W → PassesOwn (model X.prog X.w) X.A X.env xe → PSs (X.tr pn xe) body (tb W))
    (hh : Clauses X (h₀ :: hds) l) : PS X (.Try body (h₀ :: hds) [] [] pos) (fun D σ H => tb (wClauses X.K Wout D l) D σ H) := by
  refine ⟨fun pins s σ H D I h => ?_⟩
  have ok := I.ok
  have frm : X.A.frames = some (X.env :: X.outer) := ok.frames.trans (congrArg some hs)
  have out : ∀ {f : Flow} {s1 : Shared}, SP (X.tr (X.pn ++ pins) (fun e s₁ => wpAny (model X.prog X.w) X.A (noteFrame e X.env) (fun _ s₂ => wpAny (model X.prog X.w) X.A (setFlight e none) (fun _ s₃ => wpAny (model X.prog X.w) X.A (handleBy e X.env (h₀ :: hds)) (SP X pins D) X.xe s₃) X.xe s₂) X.xe s₁)) [] D f s1 → SP X pins D f s1 := by
    intro f s1 z
    cases f with
    | next => exact z.elim fun σ' z => z.elim fun H' z => ⟨σ', H', z.1.ofTry ok, z.2⟩
    | brk => exact z.elim fun σ' z => z.elim fun H' z => ⟨σ', H', z.1.ofTry ok, z.2⟩
    | cont => exact z.elim fun σ' z => z.elim fun H' z => ⟨σ', H', z.1.ofTry ok, z.2⟩
    | ret u => exact z.elim fun v z => z.elim fun σ' z => z.elim fun H' z => ⟨v, σ', H', z.1.ofTry ok, z.2⟩
  refine wpAny_Try_except (wpAny_mono ((hb (wClauses X.K Wout D l) (X.pn ++ pins) _ (fun u s' xx => ?_) PassesOwn.looking).run [] s σ H D (I.toTry _) h) (fun f s1 z => ?_) fun e s1 he => he)
  · obtain ⟨a, B, sI, pins', σ', H', cls, d, rfl, J', nb, up, sky, na, os, ag, w⟩ := xx
    have J : Inv X pins σ' H' sI := J'.ofTry ok
    have sky' : Sky B (X.env :: X.outer) a (Zc cls d) X.env.locals s'.heap := hs ▸ sky
    show wpAny (model X.prog X.w) X.A (noteFrame (.ref a) X.env) _ _ _
    refine Sky.land Zc.steady frm hf sky' fun h3 fl3 up3 => ?_
    have up13 := up.trans up3
    obtain ⟨oe3, vs3, he3, hz3, hd3⟩ := fl3.there
    have J3 : Inv X pins σ' H' { s' with heap := h3 } := J.landed nb fl3.1 up13 os ag
    have far : a ∉ frs (X.env :: X.outer) := fun hm => (fl3.2.2.1.mem hm).elim fun _ z => z.elim fun o' z => by
      have e' := z.1
      rw [he3] at e'
      exact z.2 _ (Option.some.inj e' ▸ hd3)
    have nL : a ≠ X.env.locals := fun z => far (List.mem_filterMap.mpr ⟨X.env, .head _, by rw [hf, z]⟩)
    have nF : a ∉ X.fs := fun hm => (List.mem_filterMap.mp hm).elim fun e z => far (List.mem_filterMap.mpr ⟨e, .tail _ z.1, z.2⟩)
    have S3 := J3.suite he3 hd3 na nL nF
    have tyE : PySem.W.Looks (model X.prog X.w) h3 (typeOf (.ref a)) cls := fun A Q E s k q => wpAny_typeOf_ref (k _ _ he3) (by rw [hz3.1]; exact q)
    suffices walk : ∀ {hds' : List ExceptHandler} {l' : List Clause}, Clauses X hds' l' → wClauses X.K Wout D l' cls d σ' H' → wpAny (model X.prog X.w) X.A (handleBy (.ref a) X.env hds') (SP X pins D) X.xe { s' with heap := h3 } from walk hh w
    intro hds' l' hk
    induction hk with
    | nil =>
      intro w
      refine wpAny_handleBy_nil ?_
      obtain ⟨k1, k2, k3, oe, vs, T, oT, ts', he, hz, hd, h1, hr⟩ := id fl3
      unfold PySem.passOn
      refine wpAny_bind (wpAny_field he hd h1 ?_)
      rw [if_neg (show ¬ ((Value.ref T == Value.none) = true) from by simp)]
      have fin : wpAny (model X.prog X.w) X.A (setFlight (.ref a) X.env.frame) (fun _ s4 => wpAny (model X.prog X.w) X.A (throw (.ref a) : Sem Flow) (SP X pins D) X.xe s4) X.xe { s' with heap := h3 } := by
        rw [hf]
        exact HandSPX.setFlight_upZ fl3 fun h4 hh4 up4 => wpAny_throw (tk _ _ ⟨a, B, sI, pins, σ', H', cls, d, rfl, J, nb, up13.trans up4, .inr (.inr (by rw [hs]; exact hh4)), na, os, ag, w⟩)
      first
        | exact wpAny_bind (wpAny_pure (wpAny_bind fin))
        | exact wpAny_bind fin
    | @cons x n c i ts b₀ suite np q hds2 l2 hi hln hc hsu r ih =>
      intro w
      obtain ⟨b, hb1, hyes, hno⟩ := w
      have LM := PySem.W.exm_one (M := model X.prog X.w) (J3.kIn) tyE hb1
      refine wpAny_handleBy_cons (codeAny_handlers_test ?_) (by intro q; cases q)
      have nm : ∀ {Q : Value → Shared → Prop} {E : Value → Shared → Prop}, Q c { s' with heap := h3 } → wpAny (model X.prog X.w) (X.A.mark (some (.ref a))) (eval (.Name x np) X.env) Q E { s' with heap := h3 } := fun {Q E} y => by
        rcases hc with ⟨g1, g2, m1 | ⟨m1, m2, m3⟩⟩
        · exact ld_glob (X := X.suite a ((a, oe3) :: (X.pn ++ pins))) S3 g1 m1 y g2
        · exact ld_blt (X := X.suite a ((a, oe3) :: (X.pn ++ pins))) S3 g1 m1 m2 y m3 g2
      refine nm (LM.here ?_)
      cases b with
      | false => exact ih (hno rfl)
      | true =>
        refine codeAny_handlers_suite_as (HandSPX.lands_againZ fl3 fun h4 fl4 up4 => ?_)
        obtain ⟨oe4, vs4, he4, hz4, hd4⟩ := fl4.there
        have S4 := (J.landed nb fl4.1 (up13.trans up4) os ag : Inv X pins σ' H' { s' with heap := h4 }).suite he4 hd4 na nL nF
        refine store_ok (X := X.suite a ((a, oe4) :: (X.pn ++ pins))) (v := .ref a) S4 hN hi (.inl hln) rfl (fun s5 S5 => ?_) (.inr hln)
        refine wpAny_mono ((hsu a oe4 cls d (X.pn ++ pins) hz4 ⟨_, hd4⟩).run [] s5 _ H' _ S5 (hyes rfl a na)) (fun f s6 hsp => ?_) (fun _ _ z => z.elim)
        have end_ : ∀ {σ6 : L2.St} {H6 : Hp} {Q : Shared → Prop}, Inv (X.suite a ((a, oe4) :: (X.pn ++ pins))) [] σ6 H6 s6 → (∀ s7, Inv X pins (σ6.set i none) H6 s7 → Q s7) →
            wpAny (model X.prog X.w) X.A (do bindName X.env n .none; unbindBehindTheSuite X.env n q) (fun _ s7 => Q s7) X.xe s6 := fun {σ6 H6 Q} S6 hq => gone_ok (S6.unsuite ok) hN hi hln hq
        cases f with
        | ret u => exact hsp.elim fun v z => z.elim fun σ6 z => z.elim fun H6 z => end_ z.1 fun s7 J7 => ⟨_, _, _, J7, z.2.1, z.2.2⟩
        | next => exact hsp.elim fun σ6 z => z.elim fun H6 z => end_ z.1 fun s7 J7 => ⟨_, _, J7, z.2⟩
        | brk => exact hsp.elim fun σ6 z => z.elim fun H6 z => end_ z.1 fun s7 J7 => ⟨_, _, J7, z.2⟩
        | cont => exact hsp.elim fun σ6 z => z.elim fun H6 z => end_ z.1 fun s7 J7 => ⟨_, _, J7, z.2⟩
  · have z2 := out z
    cases f with
    | next => exact wpAny_execs_nil z2
    | brk => exact z2
    | cont => exact z2
    | ret u => exact z2
end
end Z
set_option maxHeartbeats 4000000
namespace Z
open PySem PySem.Spec PyProof.Rows L2
inductive Er where
  | num (w : Str) (v : Int)
  | many (w : Str) (m l : Int)
  | name (x : Str)
def Er.cls (K : PySem.W.Frag) : Er → Addr
  | .num _ _ => He.ga K "BadNumber"
  | .many _ _ _ => He.ga K "TooMany"
  | .name _ => He.ga K "BadName"
def Er.fs : Er → List (Str × V)
  | .num w v => [("number", .int v), ("what", .str w)]
  | .many w m l => [("limit", .int l), ("many", .int m), ("what", .str w)]
  | .name x => [("name", .str x)]
section
variable (K : PySem.W.Frag)
/-- the error is raised, all else as it was -/
def Rz (H : Hp) (E : XK) (e : Er) : Prop := ∀ d H', Same H H' → H' d = some (.xd e.fs) → E (.ref (e.cls K)) (some d) H'
/-- .. but for the object at p -/
def RzK (p : Addr) (H : Hp) (E : XK) (e : Er) : Prop := ∀ d H', Keep p H H' → H' d = some (.xd e.fs) → E (.ref (e.cls K)) (some d) H'
end
/-- the first error of all, or what follows -/
def Out (o : Option Er) (r : Er → Prop) (q : Prop) : Prop := (∀ e, o = some e → r e) ∧ (o = none → q)
theorem Out.none {r : Er → Prop} {q : Prop} (h : q) : Out none r q := ⟨fun _ z => (by cases z), fun _ => h⟩
theorem Out.ok {o : Option Er} {r : Er → Prop} {q : Prop} (h : o = Option.none) (k : q) : Out o r q := ⟨fun _ z => (by rw [h] at z; cases z), fun _ => k⟩
theorem Out.or {o1 o2 : Option Er} {r r1 : Er → Prop} {q q1 : Prop} (h : Out (o1.or o2) r q) (hr : ∀ e, r e → r1 e) (k : Out o2 r q → q1) : Out o1 r1 q1 := by
  refine ⟨fun e z => hr e (h.1 e (by rw [z]; rfl)), fun z => k ?_⟩
  subst z
  exact h
theorem Out.end_ {o1 : Option Er} {r r1 : Er → Prop} {q q1 : Prop} (h : Out o1 r q) (hr : ∀ e, r e → r1 e) (k : q → q1) : Out o1 r1 q1 := ⟨fun e z => hr e (h.1 e z), fun z => k (h.2 z)⟩
section
variable {K : PySem.W.Frag} {H H1 : Hp} {E : XK} {e : Er} {p : Addr}
theorem Rz.same (h : Rz K H E e) (s : Same H H1) : Rz K H1 E e := fun d H' s' hd => h d H' (s.trans s') hd
theorem RzK.rz (h : RzK K p H E e) (k : Keep p H H1) : Rz K H1 E e := fun d H' s' hd => h d H' (fun b o nb eb => s' _ _ (k b o nb eb)) hd
end
def ckN (w : Str) (v lo hi : Int) : Option Er := if lo ≤ v ∧ v ≤ hi then none else some (.num w v)
def ckM (w : Str) (m l : Int) : Option Er := if m ≤ l then none else some (.many w m l)
def ckS (a b c : Int) : Option Er := (ckN "i" a (-12) 12).or ((ckN "n" b (-12) 12).or (ckN "one" c (-999) 999))
def ckP (a b c d : Int) : Option Er := (ckS a b c).or (ckN "divisor" d 1 3)
def ckR (a b c d : Int) : Option Er := (ckN "i" a 0 0).or ((ckN "n" b 0 3).or ((ckN "one" c (-999) 999).or (ckN "divisor" d 1 3)))
def kept : List Str := ["for", "i", "from", "n", "below", "by", "down", "if", "and", "mod"]
def lets : Str := "abcdefghijklmnopqrstuvwxyz"
def isName (x : Str) : Bool := decide (1 ≤ x.length ∧ x.length ≤ 8) && (x.cps.toList.all (fun c => decide (c ∈ lets.cps.toList)) && decide (x ∉ kept))
def ckA (x : Str) : Option Er := if isName x = true then none else some (.name x)
def ckRead (x : Str) (f a b c d : Int) : Option Er := (ckA x).or ((if f = 0 then some (.num "factor" f) else none).or ((ckN "factor" f (-999) 999).or (ckP a b c d)))
def ckCs : List (Int × Int × Int) → Option Er
  | [] => none
  | q :: r => (ckS q.1 q.2.1 q.2.2).or (ckCs r)
def ckStm (m1 m2 : Int) (x : Str) (cs : List (Int × Int × Int)) (a b c k : Int) : Option Er :=
  (ckM "reads" m1 3).or ((ckM "conditions" m2 3).or ((ckA x).or ((ckCs cs).or ((ckS a b c).or (ckN "constant" k (-999) 999)))))
def ckLoop (m S a1 b1 c1 d1 a2 b2 c2 d2 : Int) : Option Er :=
  (ckM "statements" m 16).or ((ckN "step" S 1 16).or ((ckR a1 b1 c1 d1).or ((ckR a2 b2 c2 d2).or (if 1 < S ∧ 1 < d1 then some (.num "step" S) else none))))
section
variable {X : Cx} {K : PySem.W.Frag} {mg : Str → Option Value} {k j n : Nat} {f C : Addr} {fd : FuncData} {ps ks : List Str} {sp : Sp} {E : L2.St → XK} {x : Str} {p pos : Pos} {e : Expr} {es : List Expr} {kws : List Keyword} {t tk : TA}
/-- a global def that may raise -/
def Dx (P : Program) (w : World) (K : PySem.W.Frag) (mg : Str → Option Value) (base : Heap) (j : Nat) (x : Str) (ps : List Str) (sp : Sp) : Prop :=
  ∃ (f : Addr) (fd : FuncData), FnOk P w K mg base (L2.CX P w) j f fd ps sp ∧ mg x = some (.ref f) ∧ PySem.W.keepIn K (.ref f) = true ∧ Binds K fd ps []
theorem pe_dx (D : Dx X.prog X.w K X.mg X.base j x ps sp) (hK : X.K = K) (hr : Room k X.A) (hx : ∀ σ, PassesAt (L2.CX X.prog X.w) X σ (E σ)) (ha : PA X (e :: es) t) (hjk : j ≤ k := by decide) (hg : Gl X x := by rfl)
    (hdb : (x == ("__debug__" : Str)) = false := by decide) (he : starEach (e :: es) X.env = (false, eval e X.env) :: starEach es X.env := by rfl) (hpl : (backTo pos (starEach es X.env)).any (·.1) = false := by rfl) :
    PE X (.Call (.Name x p) (e :: es) [] pos) (tCallS sp E t) := by
  subst hK
  obtain ⟨f, fd, F, hm, hk, hb⟩ := D
  exact pe_callS F (hr.mono hjk) hg hm hk hb hx ha hdb he hpl
/-- the class C of the name x may be made: __init__ with its promise, and how its parameters are bound -/
structure Mc (P : Program) (w : World) (K : PySem.W.Frag) (mg : Str → Option Value) (base : Heap) (j : Nat) (x : Str) (f : Addr) (fd : FuncData) (ps : List Str) (sp : Sp) : Prop where
  mK : Mk K (He.ga K x) f
  gC : mg x = some (.ref (He.ga K x))
  fn : FnOk P w K mg base (L2.CX P w) j f fd ps sp
theorem make_run {CX : CXT} {pins : List (Addr × Obj)} {σ : L2.St} {H : Hp} {s : Shared} {Q : VK} {us : List Value} {kw : List (Str × Value)} {vz : List V} {uz : List Value} {E0 : XK} (M : Mk X.K C f) (F : FnOk X.prog X.w X.K X.mg X.base CX k f fd ps sp) (hr : Room (k + 1) X.A)
    (hx : PassesAt CX X σ E0) (I : L2.Inv X pins σ H s) (vals : ∀ a : Addr, Vals (V.ref a :: vz) (Value.ref a :: uz))
    (bind : ∀ (s' : Shared) (a : Addr), X.K.In s'.heap → BindsTo s' fd ⟨Value.ref a :: us, kw⟩ (ps.zip (Value.ref a :: uz)))
    (h : ∀ x dx, H x = none → H dx = none → dx ≠ x → sp (.ref x :: vz) (upd (upd H dx (.own x)) x (.ins C dx [])) (fun v H2 => v = .non ∧ Q (.ref x) H2) E0) :
    wpAny (model X.prog X.w) X.A (call (.ref C) us kw) (EP X pins σ Q) X.xe s := by
  have q0 := h (s.heap.objs.size + 1) s.heap.objs.size (I.hok.fresh (Nat.le_succ _)) (I.hok.fresh (Nat.le_refl _)) (Nat.ne_of_lt (Nat.lt_succ_self _))
  have J := Inv.made (C := C) I
  refine wpAny_call (make_map (f := f) I.kIn M.makes M.init (beq_iff_eq.mp M.fn) (codeAny_mono (F.run _ X.stack _ _ ⟨Value.ref (s.heap.objs.size + 1) :: us, kw⟩ (Value.ref (s.heap.objs.size + 1) :: uz) _ _ E0 (hr.make C us kw)
    (J.env0.make C us kw) (bind _ _ J.kIn) (vals _) q0) fun r' s' z => ?_))
  cases r' with
  | error e => exact hx pins _ _ e s' J z
  | ok fl =>
    cases fl with
    | ret u =>
      obtain ⟨v, H', I3, rv, ev, q3⟩ := J.after z
      subst ev
      exact ⟨rv, ⟨V.ref (s.heap.objs.size + 1), H', I3, rfl, q3⟩⟩
    | next => exact False.elim z
    | brk => exact False.elim z
    | cont => exact False.elim z
end
end Z
namespace Z
open PySem PySem.Spec PyProof.Rows L2
section
variable (K : PySem.W.Frag)
/-- Place(v, d), d of any size: only the common divisor must be small -/
def spPG : Sp := fun vs H Q E => ∃ (p dx : Addr) (v : V) (a b c d : Int), vs = [.ref p, v, .int d] ∧ H p = some (.ins (CP K) dx []) ∧ SumV K H v a b c ∧ (d < 1 → BadN K H "divisor" (.int d) E) ∧
  (1 ≤ d → gg a b d < 1073741824 ∧ ∀ q H', H' p = some (.ins (CP K) dx (pf q (d.fdiv (gg a b d)))) → StrAt K H' q (a.fdiv (gg a b d)) (b.fdiv (gg a b d)) (c.fdiv (gg a b d)) → Keep p H H' → Q .non H')
def rPlG (v : V) (d : Int) (H : Hp) (Q : VK) (E : XK) : Prop := ∃ a b c, SumV K H v a b c ∧ (d < 1 → BadN K H "divisor" (.int d) E) ∧ (1 ≤ d → gg a b d < 1073741824 ∧ NewP K H a b c d Q)
end
end Z
set_option maxHeartbeats 4000000
namespace Z
open PySem PySem.Spec PyProof.Rows L2
def txtOf (e : Int × Value) : Str := match e.2 with | .str k _ => k | _ => Str.empty
def Tx1 (w : World) (e : Int × Value) : Prop := ∃ k u, e.2 = Value.str k u ∧ e.1 = hashStr w k
structure TxBody (w : World) (l : List Str) (es : Array (Int × Value)) (t : SetTable) : Prop where
  one : ∀ e ∈ es.toList, Tx1 w e
  nd : (es.toList.map txtOf).Nodup
  mem : ∀ k, k ∈ l ↔ k ∈ es.toList.map txtOf
  few : es.size < scanBound
  fit : t.fits es.size = true
  ris : Ris t.place.toList
  led : w.params.followText "set-order" = true ∨ t.led = true
/-- the set at a has the texts of l -/
def TxSet (w : World) (h : Heap) (a : Addr) (l : List Str) : Prop := ∃ o es ep t, h.get? a = some o ∧ o.ExactSet ∧ o.data = .set es ep t ∧ TxBody w l es t
section
variable {P : Program} {w : World} {A : Around} {E : Value → Shared → Prop} {s : Shared} {a : Addr} {l : List Str}
theorem TxSet.at {h h' : Heap} (R : TxSet w h a l) (k : ∀ o, h.get? a = some o → h'.get? a = some o) : TxSet w h' a l := by
  obtain ⟨o, es, ep, t, ho, r⟩ := R
  exact ⟨o, es, ep, t, k o ho, r⟩
theorem tx_is {e : Int × Value} (g : Tx1 w e) (k : Str) : (PySem.strKind P w).is k e.2 = true ↔ txtOf e = k := by
  obtain ⟨k0, u, h1, _⟩ := g
  unfold txtOf
  rw [h1]
  show Value.isStrOf k (.str k0 u) = true ↔ k0 = k
  simp only [Value.isStrOf]
  constructor
  · intro z
    exact (of_decide_eq_true z)
  · intro z
    exact decide_eq_true z
theorem tx_elems {es : List (Int × Value)} (g : ∀ e ∈ es, Tx1 w e) : ElemsOf (PySem.strKind P w) es := fun e he => by
  obtain ⟨k, u, h1, h2⟩ := g e he
  exact ⟨⟨k, by rw [h1]; exact PySem.Froz.is_str k u, h2⟩, by rw [h1] <;> rfl⟩
theorem tx_mem {es : List (Int × Value)} (g : ∀ e ∈ es, Tx1 w e) (k : Str) : k ∈ es.map txtOf ↔ ∃ e ∈ es, (PySem.strKind P w).is k e.2 = true := by
  rw [List.mem_map]
  exact ⟨fun ⟨e, he, q⟩ => ⟨e, he, (tx_is (g e he) k).2 q⟩, fun ⟨e, he, q⟩ => ⟨e, he, (tx_is (g e he) k).1 q⟩⟩
theorem tx_perm {es es' : Array (Int × Value)} {t t' : SetTable} (B : TxBody w l es t) (p : es'.toList.Perm es.toList) (hf : t'.fits es'.size = true) (r : Ris t'.place.toList) (e : t'.led = t.led) : TxBody w l es' t' := by
  have sz : es'.size = es.size := by rw [← Array.length_toList, p.length_eq, Array.length_toList]
  exact ⟨fun x hx => B.one x (p.mem_iff.mp hx), (p.map txtOf).nodup_iff.mpr B.nd, fun k => (B.mem k).trans (p.map txtOf).mem_iff.symm, sz ▸ B.few, hf, r, B.led.imp id fun z => e.trans z⟩
theorem len_sub {α : Type} [DecidableEq α] : ∀ (m l : List α), m.Nodup → (∀ x ∈ m, x ∈ l) → m.length ≤ l.length
  | [], l, _, _ => Nat.zero_le _
  | x :: m, l, d, h => by
    obtain ⟨d1, d2⟩ := List.nodup_cons.mp d
    have q := len_sub m (l.erase x) d2 fun y hy => (List.mem_erase_of_ne (fun (z : y = x) => d1 (by rw [← z]; exact hy))).mpr (h y (.tail _ hy))
    have hx := List.length_erase_of_mem (h x (.head _))
    have hp := List.length_pos_of_mem (h x (.head _))
    simp only [List.length_cons]
    omega
theorem TxBody.size {es : Array (Int × Value)} {t : SetTable} (B : TxBody w l es t) : es.size ≤ l.length := by
  have q := len_sub (es.toList.map txtOf) l B.nd fun x hx => (B.mem x).2 hx
  rw [List.length_map, Array.length_toList] at q
  exact q
/-- the new entries are stored, the table laid anew where it is too full -/
theorem tx_store {g : Bool → Sem Unit} (hg : ∀ (b : Bool) (s₁ : Shared) (Q' : Unit → Shared → Prop), Q' () s₁ → wpAny (model P w) A (g b) Q' E s₁) {o : Obj} {es es1 : Array (Int × Value)} {ep : Nat} {t t2 : SetTable} {dm : Bool}
    {R : Option Bool → Shared → Prop} (ho : s.heap.get? a = some o) (hx : o.ExactSet) (hd : o.data = .set es ep t) (B : TxBody w l es1 t2) (k : ∀ h', Heap.SameBut a s.heap h' → TxSet w h' a l → R (some true) { s with heap := h' }) :
    wpAny (model P w) A (do
        storeSet a es1 t2
        if (!dm && t2.tooFull) = true then do
            g (relayAll t2 es1 (SetTable.grown es1.size)).2.2
            storeSet a (relayAll t2 es1 (SetTable.grown es1.size)).1 (relayAll t2 es1 (SetTable.grown es1.size)).2.1
            pure (some true)
          else pure (some true)) R E s := by
  have h1 := store_at (es' := es1) (t' := t2) ho hd
  have b1 := Heap.SameBut.update s.heap a (Obj.putSet es1 t2)
  refine wpAny_bind (wpAny_storeSet_of ho hd ?_ (fits_of_scanBound B.few))
  split
  · have pm := relayAll_perm t2 es1 (SetTable.grown es1.size)
    have B2 := tx_perm B pm (relayAll_fits t2 es1 (SetTable.grown es1.size)) (relayAll_ris t2 es1 (SetTable.grown es1.size)) (relayAll_led t2 es1 (SetTable.grown es1.size))
    refine wpAny_bind (hg _ _ _ (wpAny_bind (wpAny_storeSet_of h1 rfl (wpAny_pure ?_) (fits_of_scanBound B2.few))))
    exact k _ (b1.trans (Heap.SameBut.update _ a _)) ⟨_, _, _, _, store_at h1 rfl, hx, rfl, B2⟩
  · exact wpAny_pure (k _ b1 ⟨_, es1, _, t2, h1, hx, rfl, B⟩)
theorem tx_add {x : Str} {u : Tok} {Q : Bool → Shared → Prop} (R : TxSet w s.heap a l) (room : l.length + 1 < scanBound) (k : ∀ h' b, Heap.SameBut a s.heap h' → TxSet w h' a (x :: l) → Q b { s with heap := h' }) : wpAny (model P w) A (setAddHashed a (.str x u) (hashStr w x)) Q E s := by
  obtain ⟨o, es, ep, t, ho, hx, hd, B⟩ := R
  have hsz := B.size
  have key : (PySem.strKind P w).is x (.str x u) = true := PySem.Froz.is_str x u
  have el : ElemsOf (PySem.strKind P w) es.toList := tx_elems B.one
  have sc : (Value.str x u).scannable = true := rfl
  unfold setAddHashed setAddHashedIn
  refine wpAny_holding (wpAny_bind (wpAny_setState_of ho hd B.fit ?_))
  dsimp only
  rw [byScan_of sc B.few el]
  simp only [↓reduceIte]
  unfold setAddByScan
  refine wpAny_bind (wpAny_bind (wpAny_rule (wpAny_bind (wpAny_setScan_of (knd := PySem.strKind P w) (k := x) key ho hd B.fit el ?_))))
  cases fi : List.findIdx? (fun e => (PySem.strKind P w).is x e.2) es.toList with
  | some j =>
    dsimp only
    obtain ⟨hj, pj, _⟩ := List.findIdx?_eq_some_iff_getElem.mp fi
    have xin : x ∈ l := (B.mem x).2 ((tx_mem (P := P) B.one x).2 ⟨es.toList[j], List.getElem_mem hj, pj⟩)
    refine wpAny_pure (wpAny_pure (k s.heap _ (Heap.SameBut.refl a s.heap) ⟨o, es, ep, t, ho, hx, hd, B.one, B.nd, fun y => ?_, B.few, B.fit, B.ris, B.led⟩))
    rw [List.mem_cons, ← B.mem y]
    exact ⟨fun z => z.elim (fun e => e ▸ xin) id, .inr⟩
  | none =>
    dsimp only
    have xno : x ∉ es.toList.map txtOf := fun z => by
      obtain ⟨e, he, q⟩ := (tx_mem (P := P) B.one x).1 z
      have c := List.findIdx?_eq_none_iff.mp fi e he
      rw [q] at c
      cases c
    have gave : ∀ (b : Bool) {s₁ : Shared} {Q' : Unit → Shared → Prop}, Q' () s₁ → wpAny (model P w) A (match b with | true => rule "set.scan.the-table-gave-way" | false => pure ()) Q' E s₁ :=
      fun b s₁ Q' q => by cases b <;> first | exact wpAny_pure q | exact wpAny_rule q
    have pm := layNew_perm t es (hashStr w x) (.str x u)
    have f1 := layNew_fits t es (hashStr w x) (.str x u)
    have r1 := layNew_ris t es (hashStr w x) (.str x u) B.ris
    have l1 := layNew_led t es (hashStr w x) (.str x u)
    show wpAny _ _ _ _ _ _
    have eh : (PySem.strKind P w).hash x = hashStr w x := rfl
    generalize layNew t es (hashStr w x) (.str x u) = Z at pm f1 r1 l1 ⊢
    obtain ⟨es1, t1, dm, gv⟩ := Z
    dsimp only at pm f1 r1 l1 ⊢
    rw [Array.toList_push] at pm
    have pc : es1.toList.Perm ((hashStr w x, Value.str x u) :: es.toList) := pm.trans (List.perm_append_singleton _ _)
    have pk : (es1.toList.map txtOf).Perm (x :: es.toList.map txtOf) := pc.map txtOf
    have sz : es1.size = es.size + 1 := by rw [← Array.length_toList, pc.length_eq, List.length_cons, Array.length_toList]
    have B1 : ∀ t' : SetTable, t'.fits es1.size = true → Ris t'.place.toList → t'.led = t.led → TxBody w (x :: l) es1 t' := fun t' q1 q2 q3 => {
      one := fun e he => by
        rcases List.mem_cons.mp (pc.mem_iff.mp he) with z | z
        · exact ⟨x, u, by rw [z], by rw [z]⟩
        · exact B.one e z
      nd := pk.nodup_iff.mpr (List.nodup_cons.mpr ⟨xno, B.nd⟩)
      mem := fun y => by rw [pk.mem_iff, List.mem_cons, List.mem_cons, B.mem y]
      few := by omega
      fit := q1
      ris := q2
      led := B.led.imp id fun z => q3.trans z }
    refine wpAny_bind (gave _ ?_)
    split
    · refine wpAny_bind ?_
      rw [hashByValue_scannable 8 sc]
      refine wpAny_pure ?_
      refine tx_store (l := x :: l) ?_ ho hx hd (B1 _ ?_ ?_ ?_) ?_
      · intro b s₁ Q' q; cases b <;> first | exact wpAny_pure q | exact wpAny_rule q
      · first | (split <;> first | exact f1 | exact SetTable.fits_plain_off f1) | exact f1
      · first | (split <;> exact r1) | exact r1
      · first | (split <;> exact l1) | exact l1
      · intro h' sb r; dsimp only; exact wpAny_pure (k h' _ sb r)
    · refine wpAny_bind (wpAny_pure ?_)
      simp only [↓reduceIte]
      refine tx_store (l := x :: l) ?_ ho hx hd (B1 _ f1 r1 l1) ?_
      · intro b s₁ Q' q; cases b <;> first | exact wpAny_pure q | exact wpAny_rule q
      · intro h' sb r; dsimp only; exact wpAny_pure (k h' _ sb r)
theorem tx_new {h : Heap} (ho : h.get? a = some { cls := .type "set", dict := none, data := .set #[] 0 (.fresh 0 0 (!w.params.followText "set-order")) }) : TxSet w h a [] :=
  ⟨_, #[], 0, _, ho, ⟨rfl, rfl, rfl⟩, rfl, ⟨fun e he => by simp at he, by simp, fun k => by simp, by decide, rfl, List.Pairwise.nil, by
    show _ ∨ (!w.params.followText "set-order") = true
    cases w.params.followText "set-order"
    · exact .inr rfl
    · exact .inl rfl⟩⟩
/-- the loop by which the set takes the items -/
theorem tx_update {I : Addr} {fp wr : List Addr} {G : Array GenState → Array GenState → Prop} {n : Nat} {Pv : Nat → Value → Prop} {St : Nat → Shared → Prop} {R : Result → Shared → Prop} (W : WalksS P w A.in1 I fp wr G n Pv St) (S : Addr) (hS : S ∉ fp)
    (xs : List Str) (hn : n = xs.length) (few : xs.length + 1 < scanBound) (item : ∀ i v, Pv i v → ∃ k t, xs[i]? = some k ∧ v = .str k t) (j : Nat) :
    ∀ (i : Nat) (s : Shared), n - i = j → i ≤ n → St i s → TxSet w s.heap S (xs.take i).reverse →
      (∀ s', Moved (S :: wr) G s s' → TxSet w s'.heap S xs.reverse → R (.ok (.ret .none)) s') → codeAny (model P w) A (.builtin "set.update.loop" ⟨[.ref S, .ref I], []⟩) R s := by
  have hw : S ∉ wr := fun h => hS (W.sub _ h)
  have sub : ∀ b ∈ wr, b ∈ S :: wr := fun b hb => .tail _ hb
  induction j with
  | zero =>
    intro i s e hi st hs hR
    obtain rfl : i = n := by omega
    refine codeAny_builtin F.entry_set_update_loop ?_
    rw [Around.under_plainId F.plain_set_update_loop _]
    refine wpAny_bind (m := pyNext (.ref I)) (W.done s _ _ st fun s' hm => ?_)
    rw [List.take_of_length_le (Nat.le_of_eq hn.symm)] at hs
    exact wpAny_pure (hR s' (hm.mono sub) (hs.at fun o e => hm.heap S o hw e))
  | succ j ih =>
    intro i s e hi st hs hR
    have lt : i < n := by omega
    refine codeAny_builtin F.entry_set_update_loop ?_
    rw [Around.under_plainId F.plain_set_update_loop _]
    refine wpAny_bind (m := pyNext (.ref I)) (W.item i s _ _ lt st fun v s' hp st' hm => ?_)
    obtain ⟨z, t, hz, rfl⟩ := item i v hp
    have hs' := hs.at (h' := s'.heap) fun o e => hm.heap S o hw e
    refine wpAny_bind (m := holding [Value.str z t] (setAdd S (.str z t))) (wpAny_holding ?_)
    unfold setAdd
    refine wpAny_holding (wpAny_bind ((PySem.strKind P w).pyHash (k := z) (PySem.Froz.is_str z t) ?_))
    have len : (xs.take i).reverse.length = i := by
      rw [List.length_reverse, List.length_take]
      omega
    refine tx_add (s := { s' with toks := s'.toks + 1 }) hs' (by rw [len]; omega) fun h' b sb hs2 => ?_
    have nx : (xs.take (i + 1)).reverse = z :: (xs.take i).reverse := by
      rw [List.take_add_one, hz, List.reverse_append] <;> rfl
    refine wpAny_pure ⟨plainId_quiet F.plain_set_update_loop _, ih (i + 1) _ (by omega) lt (W.frame _ s' _ _ st' (Nat.le_succ _) fun c hc o e => (sb.2 c fun y => hS (y ▸ hc)).trans e) (by rw [nx]; exact hs2) fun s'' hm2 hs3 => ?_⟩
    exact hR s'' (Moved.trans W.gtrans ((hm.mono sub).then_heap (Nat.le_succ _) fun c o hc e => (sb.2 c fun y => hc (y ▸ .head _)).trans e) hm2) hs3
theorem tx_item : ∀ {us : List Value} {xs : List Str}, StrsAre us xs → ∀ (i : Nat) (v : Value), us[i]? = some v → ∃ k t, xs[i]? = some k ∧ v = .str k t
  | _, _, .nil, i, v, h => by simp at h
  | _, _, .cons y t r, 0, v, h => ⟨y, t, rfl, by simpa using h.symm⟩
  | _, _, .cons y t r, i + 1, v, h => by
    obtain ⟨k, t2, e1, e2⟩ := tx_item r i v (by simpa using h)
    exact ⟨k, t2, by simpa using e1, e2⟩
set_option maxHeartbeats 6400000 in
/-- set(xs) -/
theorem tx_call {l : Addr} {items : Array Value} (xs : List Str) {Q : Value → Shared → Prop} (hh : A.handled = none) (hl : s.heap.IsList l items) (hi : StrsAre items.toList xs) (few : xs.length + 1 < scanBound)
    (k : ∀ (h' : Heap) (tk : Nat), TxSet w h' s.heap.objs.size xs.reverse → (∀ b o, s.heap.get? b = some o → h'.get? b = some o) → Q (.ref s.heap.objs.size) { s with heap := h', toks := tk }) :
    wpAny (model P w) A (call (.type "set") [.ref l]) Q E s := by
  have hz : items.size = xs.length := by rw [← Array.length_toList, StrsAre.len_eq hi]
  obtain ⟨c, tl, hmro⟩ := F.called_set.mro
  have hmade := F.called_set.made
  have hsub := F.called_set.sub
  refine wpAny_call (codeAny_of_tree ?_)
  show wpAny _ _ (callAny (.type "set") _) _ _ _
  refine wpAny_pure ⟨Code.quiet_builtin _ (by decide +kernel), codeAny_builtin F.entry_type_call ?_⟩
  rw [Around.under_plain (weight_type_call_type "set" [.ref l] []) rfl]
  have h1 := F.called_set.notType
  have h2 := F.called_set.canCreate
  have hct := F.typeCall_set_1 (.ref l)
  repeat (any_goals (first | assumption | wp_step))
  obtain ⟨H0, eH0⟩ : ∃ H0 : Heap, H0 = s.heap.push { cls := .type "set", dict := none, data := .set #[] 0 (.fresh 0 0 (!w.params.followText "set-order")) } := ⟨_, rfl⟩
  refine codeAny_mono (code_set_led1 (.ref l) (E := E) (Q₁ := fun obj s₁ => obj = .ref s.heap.objs.size ∧ s₁ = { s with heap := H0 }) ⟨rfl, by rw [eH0]⟩) fun r s₁ hr => ?_
  have g0 : H0.get? s.heap.objs.size = some { cls := .type "set", dict := none, data := .set #[] 0 (.fresh 0 0 (!w.params.followText "set-order")) } := eH0 ▸ Heap.get?_push_size _ rfl
  have z0 : H0.objs.size = s.heap.objs.size + 1 := by rw [eH0, Heap.size_push]
  have k0 : ∀ b o, s.heap.get? b = some o → H0.get? b = some o := fun b o e => eH0 ▸ Heap.get?_push_of_some _ e
  cases r with
  | error e => exact hr
  | ok fl =>
    cases fl with
    | ret obj =>
      obtain ⟨rfl, rfl⟩ := hr
      have hT : Shared.TypeIs { s with heap := H0 } (.ref s.heap.objs.size) "set" := ⟨_, g0, rfl⟩
      have hli := F.called_set.init.lookup
      have hbi := F.called_set.init.bind (.ref s.heap.objs.size)
      repeat (any_goals (first | assumption | wp_step))
      refine codeAny_mono (codeAny_call_builtin (R := wants (fun r s₂ => r = .none ∧ ∃ h' tk, s₂ = { s with heap := h', toks := tk } ∧ TxSet w h' s.heap.objs.size xs.reverse ∧ ∀ b o, s.heap.get? b = some o → h'.get? b = some o) E)
        F.called_set.init.plain F.entry_set_init (check_set_init_1 hT ?_)) fun r₂ s₂ hr₂ => ?_
      · obtain ⟨⟨ocls, odict, odata, oslots⟩, hol, hcl, nl, hdl⟩ := hl
        simp only at hcl hdl
        subst hcl hdl
        have hol' : H0.get? l = some { cls := .type "list", dict := odict, data := .seq items nl, slots := oslots } := k0 _ _ hol
        have hsls := F.sub_list_set
        have hslf := F.sub_list_frozenset
        have hne : (Value.type "list" == Value.type "dict") = false := by decide
        have hl1 : H0.IsList l items := ⟨_, hol', rfl, nl, rfl⟩
        unfold Builtin.«set.__init__» noKeywords Builtin.Frozenset.updateFrom
        generalize hPI : pyIter = PI
        wp_walk
        subst hPI
        refine wpAny_pyIter_list hl1 (wpAny_bind (wpAny_runValue ?_))
        have lt : l < s.heap.objs.size := Heap.lt_size hol
        have hne : l ≠ H0.objs.size := by rw [z0]; exact Nat.ne_of_lt (Nat.lt_succ_of_lt lt)
        have hno : s.heap.objs.size ∉ [H0.objs.size, l] := by
          simp only [List.mem_cons, List.not_mem_nil, or_false, not_or, z0]
          exact ⟨Nat.ne_of_lt (Nat.lt_succ_self _), Nat.ne_of_gt lt⟩
        refine tx_update ((Walks.list (by simp [hh]) _ l hne items).toS) s.heap.objs.size hno xs hz few (fun i v hv => ?_) (items.size - 0) 0 _ (by omega) (Nat.zero_le _) ⟨⟨_, Heap.get?_push_size _ rfl, rfl, rfl⟩, (hl1.push _)⟩ (tx_new (Heap.get?_push_of_some _ g0)) ?_
        · exact tx_item hi i v (by rw [Array.getElem?_toList]; exact hv)
        · intro s' hm hs'
          obtain ⟨h', g', d', tk', os'⟩ := s'
          have eg : g' = s.gens := hm.gens
          have ed : d' = s.drawn := hm.drawn
          have eo : os' = s.os := hm.os
          subst eg ed eo
          refine wpAny_pure (wpAny_pure (M := model P w) ⟨rfl, h', tk', rfl, hs', fun b o e => ?_⟩)
          have lb : b < s.heap.objs.size := Heap.lt_size e
          refine hm.heap b o ?_ (Heap.get?_push_of_some _ (k0 _ _ e))
          simp only [List.mem_cons, List.not_mem_nil, or_false, not_or]
          exact ⟨Nat.ne_of_lt lb, by rw [z0]; exact Nat.ne_of_lt (Nat.lt_succ_of_lt lb)⟩
      · cases r₂ with
        | error e => exact hr₂
        | ok fl₂ =>
          cases fl₂ with
          | ret r =>
            obtain ⟨rfl, h', tk, rfl, hs', hk'⟩ := hr₂
            repeat (any_goals (first | assumption | wp_step))
            exact k _ _ hs' hk'
          | _ => exact hr₂.elim
    | _ => exact hr.elim
/-- sorted(found) -/
theorem tx_sorted {Q : Value → Shared → Prop} (R : TxSet w s.heap a l) (hh : A.handled = none)
    (k : ∀ s' p (out : Array Value) (c : Nat) (ys : List Str), (∀ b o, s.heap.get? b = some o → s'.heap.get? b = some o) → s'.gens = s.gens → s'.os = s.os → s.heap.objs.size ≤ p → s'.heap.get? p = some (seqObj "list" out c) →
      StrsAre out.toList ys → ys.Nodup → (∀ x, x ∈ ys ↔ x ∈ l) → sortedS ys = true → Q (.ref p) s') : wpAny (model P w) A (call (.builtin "sorted") [.ref a]) Q E s := by
  obtain ⟨o, es, ep, t, ho, hx, hd, B⟩ := R
  refine Calls.call_function_entry kind_sorted plain_sorted entry_sorted (args_sorted1 _) ?_
  unfold Builtin.«sorted»
  refine wpAny_bind (m := checkCount "sorted" 1 1 _) (wpAny_pure ?_)
  refine wpAny_bind (collect_set (A := A.in1) hh ⟨o, ho, hx.1, hd⟩ B.fit B.few B.ris B.led fun s1 vs k1 hz g1 o1 pm => ?_)
  have vl : vs.length = es.size := by rw [pm.length_eq, List.length_map, Array.length_toList]
  have h1 : ∀ v ∈ vs, ∃ k u, v = Value.str k u := fun v hv => by
    obtain ⟨e, he, q⟩ := List.mem_map.mp (pm.mem_iff.mp hv)
    obtain ⟨k, u, h1, _⟩ := B.one e he
    exact ⟨k, u, by rw [← q]; exact h1⟩
  have hS : StrsAre vs (vs.map fun v => txtOf (0, v)) := by
    clear pm vl
    induction vs with
    | nil => exact .nil
    | cons v vs ih =>
      obtain ⟨k, u, rfl⟩ := h1 v (.head _)
      exact .cons k u (ih fun v hv => h1 v (.tail _ hv))
  have pk : (vs.map fun v => txtOf (0, v)).Perm (es.toList.map txtOf) := by
    have q := pm.map fun v => txtOf (0, v)
    rw [List.map_map] at q
    exact q
  have few : vs.length ≤ sizeLine := by
    have := B.few
    rw [vl]
    exact fits_of_scanBound this
  refine wpAny_bind (wpAny_newList ?_ few)
  have hoL : (s1.heap.push (seqObj "list" vs.toArray 0)).get? s1.heap.objs.size = some (seqObj "list" vs.toArray 0) := Heap.get?_push_size _ rfl
  refine wpAny_bind (wpAny_holding (wpAny_call_entry slot_list_sort ⟨_, hoL, rfl⟩ entry_list_sort
    (list_sort_treeKAny strKind_oneLt hoL hS.keysOf (fun v₁ v₂ rest e => keyKind_strs (by rw [← e]; exact hS)) few fun st' hp hs => ⟨_, rfl, ?_⟩) (args_list_sort _)))
  obtain ⟨ys, a1, a2, a3⟩ := sorted_out_str hS hp hs
  obtain ⟨c, hc⟩ := sortedHeap_at (vs := vs) (out := (arrOf st').map (·.2)) hoL
  have pn : ys.Perm (es.toList.map txtOf) := a2.trans pk
  refine wpAny_pure ⟨_, rfl, k _ s1.heap.objs.size _ c ys (fun b u e => ?_) g1 o1 hz hc a1 (pn.nodup_iff.mpr B.nd) (fun x => by rw [pn.mem_iff, B.mem x]) a3⟩
  have q := k1 b u e
  have hlt := Heap.lt_size q
  show (sortedHeap (s1.heap.push (seqObj "list" vs.toArray 0)) s1.heap.objs.size vs _).get? b = some u
  rw [sortedHeap_old (Nat.ne_of_lt hlt) (by rw [Heap.size_push]; exact Nat.lt_succ_of_lt hlt)]
  exact Heap.get?_push_of_some _ q
end
def TxO (w : World) (a : Addr) (l : List Str) : HO := .ext fun h => TxSet w h a l
theorem txO_new {w : World} {P : Program} {H : Hp} {h : Heap} {a : Addr} {l : List Str} (R : TxSet w h a l) : ObjOk P w H h a (TxO w a l) := by
  have ⟨o, es, ep, t, ho, r⟩ := R
  refine ⟨R, ⟨o, ho⟩, fun h1 h2 p k => ?_⟩
  have ⟨o', es', ep', t', ho', r'⟩ := (show TxSet w h1 a l from p)
  exact ⟨o', es', ep', t', k o' ho', r'⟩
section
variable {X : Cx}
/-- set(xs), xs a list of texts -/
def rSetTx (K : PySem.W.Frag) (w : World) : List V → Hp → VK → Prop := fun vs H Q => ∃ (l : Addr) (xs : List Str), vs = [V.ref l] ∧ SqL K H l (xs.map V.str) ∧ xs.length + 1 < scanBound ∧ ∀ a, H a = none → Q (.ref a) (upd H a (TxO w a xs.reverse))
theorem cr_setTx (hc : X.calm = true) : CallR X (.type "set") (rSetTx X.K X.w) := by
  intro pins s σ H vs us Q I r h
  obtain ⟨l, xs, rfl, hl, few, q⟩ := h
  rw [Vals.ref1 r]
  obtain ⟨its, rv, pl, hz⟩ := I.list hl
  have hn : H s.heap.objs.size = none := I.hok.fresh (Nat.le_refl _)
  exact tx_call (P := X.prog) (w := X.w) xs (I.ok.hd hc) pl.isList (by simpa using rv.strs) few fun h' tk R k =>
    ⟨.ref s.heap.objs.size, upd H s.heap.objs.size (TxO X.w s.heap.objs.size xs.reverse), I.laid (t' := tk) k (Nat.le_refl _) (txO_new R), rfl, q _ hn⟩
/-- sorted(found) of such a set -/
def rSortedTx (w : World) : List V → Hp → VK → Prop := fun vs H Q => ∃ (a : Addr) (l : List Str), vs = [V.ref a] ∧ H a = some (TxO w a l) ∧ l.length ≤ 4096 ∧
  ∀ (ys : List Str) (p : Addr), ys.Nodup → (∀ x, x ∈ ys ↔ x ∈ l) → sortedS ys = true → H p = none → Q (.ref p) (upd H p (.lst (ys.map V.str)))
theorem cr_sortedTx (hc : X.calm = true) : CallR X (.builtin "sorted") (rSortedTx X.w) := by
  intro pins s σ H vs us Q I r h
  obtain ⟨a, l, rfl, ha, few, q⟩ := h
  have R : TxSet X.w s.heap a l := (I.hok a _ ha).1
  rw [Vals.ref1 r]
  refine tx_sorted (P := X.prog) R (I.ok.hd hc) fun s' p out c ys k g o hp hg hi nd mem srt => ?_
  have hlen : (ys.map V.str).length ≤ sizeLine := by
    rw [List.length_map, sizeLine_eq]
    have := len_sub ys l nd fun x hx => (mem x).1 hx
    omega
  have hn : H p = none := I.hok.fresh hp
  have J : Inv X pins σ (upd H p (.lst (ys.map V.str))) { s with heap := s'.heap, gens := s'.gens, drawn := s'.drawn, toks := s'.toks } :=
    I.call (ch := []) (Un.laid k hp hn) (I.hok.laid k hp ⟨hlen, out.toList, c, vals_of_strs hi, hg⟩) (by rw [g]; exact I.bare) (fun _ z => nomatch z)
  have e : s' = { s with heap := s'.heap, gens := s'.gens, drawn := s'.drawn, toks := s'.toks } := by
    cases s'
    cases s
    cases o
    rfl
  rw [e]
  exact ⟨.ref p, _, J, rfl, q ys p nd mem srt hn⟩
end
end Z
set_option maxHeartbeats 4000000
namespace Z
open PySem PySem.Spec PyProof.Rows L2
/-- a list or a tuple that is read -/
def SqA (K : PySem.W.Frag) (H : Hp) (a : Addr) (xs : List V) : Prop := SqL K H a xs ∨ SqT K H a xs
/-- a walk of a list or a tuple -/
def iAny (K : PySem.W.Frag) (tl : TE) : TI := fun σ H R => tl σ H fun x H1 => ∃ a, x = .ref a ∧ (((∃ xs, SqL K H1 a xs) ∧ R (Itl K a) H1) ∨ ((∃ xs, SqT K H1 a xs) ∧ R (Itt K a) H1))
theorem pi_any {X : Cx} {tg l : Expr} {tl : TE} (hl : PE X l tl) : PI X tg l (iAny X.K tl) := by
  refine ⟨fun pins s σ H R I h => thn (hl.run pins s σ H _ I h) fun v s1 ⟨x, H1, I1, r1, a, e, q⟩ => ?_⟩
  subst e
  cases r1
  have new : Inv X pins σ H1 s1 → H1 s1.heap.objs.size = none := fun I => I.hok.fresh (Nat.le_refl _)
  rcases q with ⟨⟨xs, hq⟩, q⟩ | ⟨⟨xs, hq⟩, q⟩
  · obtain ⟨its, rv, p, hz⟩ := I1.list hq
    refine wpAny_pyIter_list p.isList ⟨s1.heap.objs.size, [s1.heap.objs.size], _, _, H1, rfl, I1.kept (t' := s1.toks) fun b o e => Heap.get?_push_of_some _ e, turn_list a _, ⟨_, Heap.get?_push_size _ rfl, rfl, rfl⟩, fun b hb => ?_, q⟩
    rw [List.mem_singleton.mp hb]
    exact I1.fpOk (Nat.le_refl _) (new I1)
  · obtain ⟨its, rv, p, hz⟩ := I1.tuple hq
    refine wpAny_pyIter_tuple (show s1.heap.IsTuple a its.toArray from p) ⟨s1.heap.objs.size, [s1.heap.objs.size], _, _, H1, rfl, I1.kept (t' := s1.toks) fun b o e => Heap.get?_push_of_some _ e, turn_tuple a _, ⟨_, Heap.get?_push_size _ rfl, rfl, rfl⟩, fun b hb => ?_, q⟩
    rw [List.mem_singleton.mp hb]
    exact I1.fpOk (Nat.le_refl _) (new I1)
/-- a comprehension over the signs of a text -/
theorem lc_str {x : Str} {g : TG} {tt : TT} {te : TE} {vs : List Nat} {σ : L2.St} {H1 : Hp} {D : Addr} {Qd : Hp → Prop} (Pv : Nat → Hp → Prop) (h0 : Pv 0 (upd H1 D (.lst [])))
    (hs : ∀ i c H, x.cps[i]? = some c → Pv i H → g (.str ⟨#[c]⟩) (wipe σ vs) H fun σ2 H2 => wipe σ2 vs = wipe σ vs ∧ tt σ2 H2 fun b H3 =>
      if b = true then te σ2 H3 fun y H4 => ∃ acc, H4 D = some (.lst acc) ∧ acc.length < sizeLine ∧ Pv (i + 1) (upd H4 D (.lst (acc ++ [y]))) else Pv (i + 1) H3) (hd : ∀ H, Pv x.cps.size H → Qd H) :
    ∃ W : Nat → Nat → Hp → Prop, (∃ m, W 0 m (upd H1 D (.lst []))) ∧ ∀ i m H, W i m H →
      ((Its x).stop i H ∧ Qd H) ∨ ((Its x).go i H ∧ ∃ Nx : Hp → Prop, (∀ H', Nx H' → ∃ m', m' < m ∧ W (i + 1) m' H') ∧ ∀ v H', (Its x).yld i H v H' → g v (wipe σ vs) H' fun σ2 H2 => wipe σ2 vs = wipe σ vs ∧ tt σ2 H2 fun b H3 =>
        if b = true then te σ2 H3 fun y H4 => ∃ acc, H4 D = some (.lst acc) ∧ acc.length < sizeLine ∧ Nx (upd H4 D (.lst (acc ++ [y]))) else Nx H3) := by
  refine ⟨fun i m H => m = x.cps.size - i ∧ i ≤ x.cps.size ∧ Pv i H, ⟨x.cps.size, by simp, Nat.zero_le _, h0⟩, ?_⟩
  rintro i m H ⟨rfl, hi, p⟩
  rcases Nat.lt_or_ge i x.cps.size with lt | ge
  · refine .inr ⟨lt, Pv (i + 1), fun H' p' => ⟨x.cps.size - (i + 1), by omega, rfl, lt, p'⟩, fun v H' y => ?_⟩
    obtain ⟨rfl, c, hc, rfl⟩ := y
    exact hs i c _ hc p
  · obtain rfl : i = x.cps.size := by omega
    exact .inl ⟨Nat.le_refl _, hd H p⟩
end Z
namespace Z
open PySem PySem.Spec PyProof.Rows L2
theorem pe_fldK {X : Cx} {K : PySem.W.Frag} {e : Expr} {n : Str} {te : TE} {pos : Pos} (hK : X.K = K) (he : PE X e te) (hb : attributeBase e n X.env (eval e X.env) = eval e X.env := by rfl) : PE X (.Attribute e n pos) (tFld K te n) := by
  subst hK
  exact pe_fld he hb
end Z
set_option maxHeartbeats 4000000
namespace K26
open PySem PySem.Spec PyProof.Rows L2 Z
/-- the default object of a keyword-only parameter of Statement -/
def kwAt (x : Str) (K : PySem.W.Frag) : Addr := match K.lookup (He.fAd K ("Statement", some "__init__")) with
  | some ⟨_, _, .func fd, _⟩ => (match fd.kwdefaults with
    | .ref D => (match PySem.W.nsIn K D x with
      | some (some (.ref a)) => a
      | _ => 0)
    | _ => 0)
  | _ => 0
end K26
namespace K26
open PySem PySem.Spec PyProof.Rows L2 Z
def top (i : Nat) : Stmt := PySem.Challenge.pw_loopsize_k26_logs_of_plain_runs.main.body.getD i (.Pass ⟨0, 0, 0, 0⟩)
abbrev s_wall : Stmt := top 1
abbrev s_is_integer : Stmt := top 14
abbrev s_is_integer_from : Stmt := top 15
abbrev s_is_size : Stmt := top 16
abbrev s_is_array_name : Stmt := top 17
abbrev s_is_straight : Stmt := top 21
abbrev s_straight_like : Stmt := top 22
abbrev s_place_like : Stmt := top 23
abbrev s_value_of : Stmt := top 24
abbrev s_added : Stmt := top 25
abbrev s_turns_from : Stmt := top 44
abbrev s_arrays_in : Stmt := top 45
abbrev s_check_many : Stmt := top 46
abbrev s_check_name : Stmt := top 47
abbrev s_check_number : Stmt := top 48
abbrev s_check_sum : Stmt := top 49
abbrev s_check_place : Stmt := top 50
abbrev s_check_range_place : Stmt := top 51
abbrev s_check_run : Stmt := top 56
abbrev s_works_of : Stmt := top 57
abbrev s_statement_of : Stmt := top 58
abbrev s_log_program : Stmt := top 59
abbrev s_law_pen : Stmt := top 61
abbrev s_law_draw : Stmt := top 62
abbrev s_law_pick : Stmt := top 63
abbrev s_law_big : Stmt := top 64
abbrev s_law_between : Stmt := top 65
abbrev s_law_name : Stmt := top 66
abbrev s_law_names : Stmt := top 67
abbrev s_law_value : Stmt := top 68
abbrev s_law_guard_holds : Stmt := top 69
abbrev s_law_small_guard : Stmt := top 70
abbrev s_law_small_statement : Stmt := top 71
abbrev s_law_small_loop : Stmt := top 72
abbrev s_law_small_rows : Stmt := top 73
abbrev s_law_counters : Stmt := top 74
abbrev s_law_works : Stmt := top 75
abbrev s_law_sum : Stmt := top 76
abbrev s_law_made_guard : Stmt := top 77
abbrev s_law_made_statement : Stmt := top 78
abbrev s_law_made_loop : Stmt := top 79
abbrev s_law_made : Stmt := top 80
abbrev s_law_log : Stmt := top 81
abbrev s_law_told : Stmt := top 82
abbrev s_law_term_told : Stmt := top 83
abbrev s_law_term : Stmt := top 84
abbrev s_law_turns_far : Stmt := top 85
abbrev s_law_log_right : Stmt := top 86
abbrev s_law : Stmt := top 87
abbrev iBadName__init__ : Stmt := inClass (top 4) 0
abbrev iBadNumber__init__ : Stmt := inClass (top 5) 0
abbrev iBadSize__init__ : Stmt := inClass (top 6) 0
abbrev iTooMany__init__ : Stmt := inClass (top 7) 0
abbrev iTooLong__init__ : Stmt := inClass (top 8) 0
abbrev iNoWork__init__ : Stmt := inClass (top 9) 0
abbrev iStraight__init__ : Stmt := inClass (top 19) 0
abbrev iStraight__call__ : Stmt := inClass (top 19) 1
abbrev iPlace__init__ : Stmt := inClass (top 20) 0
abbrev iPlace__call__ : Stmt := inClass (top 20) 1
abbrev iAtLeast__init__ : Stmt := inClass (top 28) 0
abbrev iAtLeastholds : Stmt := inClass (top 28) 1
abbrev iRest__init__ : Stmt := inClass (top 29) 0
abbrev iRestholds : Stmt := inClass (top 29) 1
abbrev iRead__init__ : Stmt := inClass (top 40) 0
abbrev iStatement__init__ : Stmt := inClass (top 41) 0
abbrev iStatementis_done : Stmt := inClass (top 41) 1
abbrev iLoop__init__ : Stmt := inClass (top 42) 0
abbrev iLoopmany_turns : Stmt := inClass (top 42) 1
abbrev iLoopcounter_of : Stmt := inClass (top 42) 2
abbrev iLoopleast_counter : Stmt := inClass (top 42) 4
abbrev iProgram__init__ : Stmt := inClass (top 43) 0
abbrev iLog__init__ : Stmt := inClass (top 55) 0
abbrev iLoglast_writer : Stmt := inClass (top 55) 1
abbrev iLogterm_of : Stmt := inClass (top 55) 2
abbrev iLogterm_below : Stmt := inClass (top 55) 3
def d_wall : He.DefD := ⟨("_wall", none), "_wall", "_wall", defArgs s_wall, defBody s_wall, defScope s_wall, [], []⟩
def d_is_integer : He.DefD := ⟨("is_integer", none), "is_integer", "is_integer", defArgs s_is_integer, defBody s_is_integer, defScope s_is_integer, [], []⟩
def d_is_integer_from : He.DefD := ⟨("is_integer_from", none), "is_integer_from", "is_integer_from", defArgs s_is_integer_from, defBody s_is_integer_from, defScope s_is_integer_from, [], []⟩
def d_is_size : He.DefD := ⟨("is_size", none), "is_size", "is_size", defArgs s_is_size, defBody s_is_size, defScope s_is_size, [], []⟩
def d_is_array_name : He.DefD := ⟨("is_array_name", none), "is_array_name", "is_array_name", defArgs s_is_array_name, defBody s_is_array_name, defScope s_is_array_name, [], []⟩
def d_is_straight : He.DefD := ⟨("is_straight", none), "is_straight", "is_straight", defArgs s_is_straight, defBody s_is_straight, defScope s_is_straight, [], []⟩
def d_straight_like : He.DefD := ⟨("straight_like", none), "straight_like", "straight_like", defArgs s_straight_like, defBody s_straight_like, defScope s_straight_like, [], []⟩
def d_place_like : He.DefD := ⟨("place_like", none), "place_like", "place_like", defArgs s_place_like, defBody s_place_like, defScope s_place_like, [], []⟩
def d_value_of : He.DefD := ⟨("value_of", none), "value_of", "value_of", defArgs s_value_of, defBody s_value_of, defScope s_value_of, [], []⟩
def d_added : He.DefD := ⟨("added", none), "added", "added", defArgs s_added, defBody s_added, defScope s_added, [], []⟩
def d_turns_from : He.DefD := ⟨("turns_from", none), "turns_from", "turns_from", defArgs s_turns_from, defBody s_turns_from, defScope s_turns_from, [], []⟩
def d_arrays_in : He.DefD := ⟨("arrays_in", none), "arrays_in", "arrays_in", defArgs s_arrays_in, defBody s_arrays_in, defScope s_arrays_in, [], []⟩
def d_check_many : He.DefD := ⟨("check_many", none), "check_many", "check_many", defArgs s_check_many, defBody s_check_many, defScope s_check_many, [], []⟩
def d_check_name : He.DefD := ⟨("check_name", none), "check_name", "check_name", defArgs s_check_name, defBody s_check_name, defScope s_check_name, [], []⟩
def d_check_number : He.DefD := ⟨("check_number", none), "check_number", "check_number", defArgs s_check_number, defBody s_check_number, defScope s_check_number, [], []⟩
def d_check_sum : He.DefD := ⟨("check_sum", none), "check_sum", "check_sum", defArgs s_check_sum, defBody s_check_sum, defScope s_check_sum, [], []⟩
def d_check_place : He.DefD := ⟨("check_place", none), "check_place", "check_place", defArgs s_check_place, defBody s_check_place, defScope s_check_place, [], []⟩
def d_check_range_place : He.DefD := ⟨("check_range_place", none), "check_range_place", "check_range_place", defArgs s_check_range_place, defBody s_check_range_place, defScope s_check_range_place, [], []⟩
def d_check_run : He.DefD := ⟨("check_run", none), "check_run", "check_run", defArgs s_check_run, defBody s_check_run, defScope s_check_run, [], []⟩
def d_works_of : He.DefD := ⟨("works_of", none), "works_of", "works_of", defArgs s_works_of, defBody s_works_of, defScope s_works_of, [], []⟩
def d_statement_of : He.DefD := ⟨("statement_of", none), "statement_of", "statement_of", defArgs s_statement_of, defBody s_statement_of, defScope s_statement_of, [], []⟩
def d_log_program : He.DefD := ⟨("log_program", none), "log_program", "log_program", defArgs s_log_program, defBody s_log_program, defScope s_log_program, [], []⟩
def d_law_pen : He.DefD := ⟨("_law_pen", none), "_law_pen", "_law_pen", defArgs s_law_pen, defBody s_law_pen, defScope s_law_pen, [], []⟩
def d_law_draw : He.DefD := ⟨("_law_draw", none), "_law_draw", "_law_draw", defArgs s_law_draw, defBody s_law_draw, defScope s_law_draw, [], []⟩
def d_law_pick : He.DefD := ⟨("_law_pick", none), "_law_pick", "_law_pick", defArgs s_law_pick, defBody s_law_pick, defScope s_law_pick, [], []⟩
def d_law_big : He.DefD := ⟨("_law_big", none), "_law_big", "_law_big", defArgs s_law_big, defBody s_law_big, defScope s_law_big, [], []⟩
def d_law_between : He.DefD := ⟨("_law_between", none), "_law_between", "_law_between", defArgs s_law_between, defBody s_law_between, defScope s_law_between, [], []⟩
def d_law_name : He.DefD := ⟨("_law_name", none), "_law_name", "_law_name", defArgs s_law_name, defBody s_law_name, defScope s_law_name, [], []⟩
def d_law_names : He.DefD := ⟨("_law_names", none), "_law_names", "_law_names", defArgs s_law_names, defBody s_law_names, defScope s_law_names, [], []⟩
def d_law_value : He.DefD := ⟨("_law_value", none), "_law_value", "_law_value", defArgs s_law_value, defBody s_law_value, defScope s_law_value, [], []⟩
def d_law_guard_holds : He.DefD := ⟨("_law_guard_holds", none), "_law_guard_holds", "_law_guard_holds", defArgs s_law_guard_holds, defBody s_law_guard_holds, defScope s_law_guard_holds, [], []⟩
def d_law_small_guard : He.DefD := ⟨("_law_small_guard", none), "_law_small_guard", "_law_small_guard", defArgs s_law_small_guard, defBody s_law_small_guard, defScope s_law_small_guard, [], []⟩
def d_law_small_statement : He.DefD := ⟨("_law_small_statement", none), "_law_small_statement", "_law_small_statement", defArgs s_law_small_statement, defBody s_law_small_statement, defScope s_law_small_statement, [], []⟩
def d_law_small_loop : He.DefD := ⟨("_law_small_loop", none), "_law_small_loop", "_law_small_loop", defArgs s_law_small_loop, defBody s_law_small_loop, defScope s_law_small_loop, [], []⟩
def d_law_small_rows : He.DefD := ⟨("_law_small_rows", none), "_law_small_rows", "_law_small_rows", defArgs s_law_small_rows, defBody s_law_small_rows, defScope s_law_small_rows, [], []⟩
def d_law_counters : He.DefD := ⟨("_law_counters", none), "_law_counters", "_law_counters", defArgs s_law_counters, defBody s_law_counters, defScope s_law_counters, [], []⟩
def d_law_works : He.DefD := ⟨("_law_works", none), "_law_works", "_law_works", defArgs s_law_works, defBody s_law_works, defScope s_law_works, [], []⟩
def d_law_sum : He.DefD := ⟨("_law_sum", none), "_law_sum", "_law_sum", defArgs s_law_sum, defBody s_law_sum, defScope s_law_sum, [], []⟩
def d_law_made_guard : He.DefD := ⟨("_law_made_guard", none), "_law_made_guard", "_law_made_guard", defArgs s_law_made_guard, defBody s_law_made_guard, defScope s_law_made_guard, [], []⟩
def d_law_made_statement : He.DefD := ⟨("_law_made_statement", none), "_law_made_statement", "_law_made_statement", defArgs s_law_made_statement, defBody s_law_made_statement, defScope s_law_made_statement, [], []⟩
def d_law_made_loop : He.DefD := ⟨("_law_made_loop", none), "_law_made_loop", "_law_made_loop", defArgs s_law_made_loop, defBody s_law_made_loop, defScope s_law_made_loop, [], []⟩
def d_law_made : He.DefD := ⟨("_law_made", none), "_law_made", "_law_made", defArgs s_law_made, defBody s_law_made, defScope s_law_made, [], []⟩
def d_law_log : He.DefD := ⟨("_law_log", none), "_law_log", "_law_log", defArgs s_law_log, defBody s_law_log, defScope s_law_log, [], []⟩
def d_law_told : He.DefD := ⟨("_law_told", none), "_law_told", "_law_told", defArgs s_law_told, defBody s_law_told, defScope s_law_told, [], []⟩
def d_law_term_told : He.DefD := ⟨("_law_term_told", none), "_law_term_told", "_law_term_told", defArgs s_law_term_told, defBody s_law_term_told, defScope s_law_term_told, [], []⟩
def d_law_term : He.DefD := ⟨("_law_term", none), "_law_term", "_law_term", defArgs s_law_term, defBody s_law_term, defScope s_law_term, [], []⟩
def d_law_turns_far : He.DefD := ⟨("_law_turns_far", none), "_law_turns_far", "_law_turns_far", defArgs s_law_turns_far, defBody s_law_turns_far, defScope s_law_turns_far, [], []⟩
def d_law_log_right : He.DefD := ⟨("_law_log_right", none), "_law_log_right", "_law_log_right", defArgs s_law_log_right, defBody s_law_log_right, defScope s_law_log_right, [], []⟩
def d_law : He.DefD := ⟨("law", none), "law", "law", defArgs s_law, defBody s_law, defScope s_law, [], []⟩
def dBadName__init__ : He.DefD := ⟨("BadName", some "__init__"), "__init__", "BadName.__init__", defArgs iBadName__init__, defBody iBadName__init__, defScope iBadName__init__, [], []⟩
def dBadNumber__init__ : He.DefD := ⟨("BadNumber", some "__init__"), "__init__", "BadNumber.__init__", defArgs iBadNumber__init__, defBody iBadNumber__init__, defScope iBadNumber__init__, [], []⟩
def dBadSize__init__ : He.DefD := ⟨("BadSize", some "__init__"), "__init__", "BadSize.__init__", defArgs iBadSize__init__, defBody iBadSize__init__, defScope iBadSize__init__, [], []⟩
def dTooMany__init__ : He.DefD := ⟨("TooMany", some "__init__"), "__init__", "TooMany.__init__", defArgs iTooMany__init__, defBody iTooMany__init__, defScope iTooMany__init__, [], []⟩
def dTooLong__init__ : He.DefD := ⟨("TooLong", some "__init__"), "__init__", "TooLong.__init__", defArgs iTooLong__init__, defBody iTooLong__init__, defScope iTooLong__init__, [], []⟩
def dNoWork__init__ : He.DefD := ⟨("NoWork", some "__init__"), "__init__", "NoWork.__init__", defArgs iNoWork__init__, defBody iNoWork__init__, defScope iNoWork__init__, [], []⟩
def dStraight__init__ : He.DefD := ⟨("Straight", some "__init__"), "__init__", "Straight.__init__", defArgs iStraight__init__, defBody iStraight__init__, defScope iStraight__init__, [], []⟩
def dStraight__call__ : He.DefD := ⟨("Straight", some "__call__"), "__call__", "Straight.__call__", defArgs iStraight__call__, defBody iStraight__call__, defScope iStraight__call__, [], []⟩
def dPlace__init__ : He.DefD := ⟨("Place", some "__init__"), "__init__", "Place.__init__", defArgs iPlace__init__, defBody iPlace__init__, defScope iPlace__init__, [], []⟩
def dPlace__call__ : He.DefD := ⟨("Place", some "__call__"), "__call__", "Place.__call__", defArgs iPlace__call__, defBody iPlace__call__, defScope iPlace__call__, [], []⟩
def dAtLeast__init__ : He.DefD := ⟨("AtLeast", some "__init__"), "__init__", "AtLeast.__init__", defArgs iAtLeast__init__, defBody iAtLeast__init__, defScope iAtLeast__init__, [], []⟩
def dAtLeastholds : He.DefD := ⟨("AtLeast", some "holds"), "holds", "AtLeast.holds", defArgs iAtLeastholds, defBody iAtLeastholds, defScope iAtLeastholds, [], []⟩
def dRest__init__ : He.DefD := ⟨("Rest", some "__init__"), "__init__", "Rest.__init__", defArgs iRest__init__, defBody iRest__init__, defScope iRest__init__, [], []⟩
def dRestholds : He.DefD := ⟨("Rest", some "holds"), "holds", "Rest.holds", defArgs iRestholds, defBody iRestholds, defScope iRestholds, [], []⟩
def dRead__init__ : He.DefD := ⟨("Read", some "__init__"), "__init__", "Read.__init__", defArgs iRead__init__, defBody iRead__init__, defScope iRead__init__, [], [("factor", .int 1)]⟩
def dStatement__init__ : He.DefD := ⟨("Statement", some "__init__"), "__init__", "Statement.__init__", defArgs iStatement__init__, defBody iStatement__init__, defScope iStatement__init__, [], [("reads", .adr (kwAt "reads")), ("conditions", .adr (kwAt "conditions"))]⟩
def dStatementis_done : He.DefD := ⟨("Statement", some "is_done"), "is_done", "Statement.is_done", defArgs iStatementis_done, defBody iStatementis_done, defScope iStatementis_done, [], []⟩
def dLoop__init__ : He.DefD := ⟨("Loop", some "__init__"), "__init__", "Loop.__init__", defArgs iLoop__init__, defBody iLoop__init__, defScope iLoop__init__, [], [("step", .int 1), ("down", .bl false)]⟩
def dLoopmany_turns : He.DefD := ⟨("Loop", some "many_turns"), "many_turns", "Loop.many_turns", defArgs iLoopmany_turns, defBody iLoopmany_turns, defScope iLoopmany_turns, [], []⟩
def dLoopcounter_of : He.DefD := ⟨("Loop", some "counter_of"), "counter_of", "Loop.counter_of", defArgs iLoopcounter_of, defBody iLoopcounter_of, defScope iLoopcounter_of, [], []⟩
def dLoopleast_counter : He.DefD := ⟨("Loop", some "least_counter"), "least_counter", "Loop.least_counter", defArgs iLoopleast_counter, defBody iLoopleast_counter, defScope iLoopleast_counter, [], []⟩
def dProgram__init__ : He.DefD := ⟨("Program", some "__init__"), "__init__", "Program.__init__", defArgs iProgram__init__, defBody iProgram__init__, defScope iProgram__init__, [], []⟩
def dLog__init__ : He.DefD := ⟨("Log", some "__init__"), "__init__", "Log.__init__", defArgs iLog__init__, defBody iLog__init__, defScope iLog__init__, [], []⟩
def dLoglast_writer : He.DefD := ⟨("Log", some "last_writer"), "last_writer", "Log.last_writer", defArgs iLoglast_writer, defBody iLoglast_writer, defScope iLoglast_writer, [], []⟩
def dLogterm_of : He.DefD := ⟨("Log", some "term_of"), "term_of", "Log.term_of", defArgs iLogterm_of, defBody iLogterm_of, defScope iLogterm_of, [], []⟩
def dLogterm_below : He.DefD := ⟨("Log", some "term_below"), "term_below", "Log.term_below", defArgs iLogterm_below, defBody iLogterm_below, defScope iLogterm_below, [], []⟩
def fn0 : List He.DefD := [d_wall, d_is_integer, d_is_integer_from, d_is_size, d_is_array_name, d_is_straight, d_straight_like, d_place_like]
def fn1 : List He.DefD := [d_value_of, d_added, d_turns_from, d_arrays_in, d_check_many, d_check_name, d_check_number, d_check_sum]
def fn2 : List He.DefD := [d_check_place, d_check_range_place, d_check_run, d_works_of, d_statement_of, d_log_program, d_law_pen, d_law_draw]
def fn3 : List He.DefD := [d_law_pick, d_law_big, d_law_between, d_law_name, d_law_names, d_law_value, d_law_guard_holds, d_law_small_guard]
def fn4 : List He.DefD := [d_law_small_statement, d_law_small_loop, d_law_small_rows, d_law_counters, d_law_works, d_law_sum, d_law_made_guard, d_law_made_statement]
def fn5 : List He.DefD := [d_law_made_loop, d_law_made, d_law_log, d_law_told, d_law_term_told, d_law_term, d_law_turns_far, d_law_log_right]
def fn6 : List He.DefD := [d_law, dBadName__init__, dBadNumber__init__, dBadSize__init__, dTooMany__init__, dTooLong__init__, dNoWork__init__, dStraight__init__]
def fn7 : List He.DefD := [dStraight__call__, dPlace__init__, dPlace__call__, dAtLeast__init__, dAtLeastholds, dRest__init__, dRestholds, dRead__init__]
def fn8 : List He.DefD := [dStatement__init__, dStatementis_done, dLoop__init__, dLoopmany_turns, dLoopcounter_of, dLoopleast_counter, dProgram__init__, dLog__init__]
def fn9 : List He.DefD := [dLoglast_writer, dLogterm_of, dLogterm_below]
def fn : List He.DefD := fn0 ++ fn1 ++ fn2 ++ fn3 ++ fn4 ++ fn5 ++ fn6 ++ fn7 ++ fn8 ++ fn9
def glos0 : List Str := ["LoopError", "BadName", "BadNumber", "BadSize", "TooMany", "TooLong", "NoWork", "Straight"]
def glos1 : List Str := ["Place", "AtLeast", "Rest", "Read", "Statement", "Loop", "Program", "Log"]
def glos2 : List Str := ["_wall", "is_integer", "is_integer_from", "is_size", "is_array_name", "is_straight", "straight_like", "place_like"]
def glos3 : List Str := ["value_of", "added", "turns_from", "arrays_in", "check_many", "check_name", "check_number", "check_sum"]
def glos4 : List Str := ["check_place", "check_range_place", "check_run", "works_of", "statement_of", "log_program", "_law_pen", "_law_draw"]
def glos5 : List Str := ["_law_pick", "_law_big", "_law_between", "_law_name", "_law_names", "_law_value", "_law_guard_holds", "_law_small_guard"]
def glos6 : List Str := ["_law_small_statement", "_law_small_loop", "_law_small_rows", "_law_counters", "_law_works", "_law_sum", "_law_made_guard", "_law_made_statement"]
def glos7 : List Str := ["_law_made_loop", "_law_made", "_law_log", "_law_told", "_law_term_told", "_law_term", "_law_turns_far", "_law_log_right"]
def glos8 : List Str := ["law"]
def glos : List Str := glos0 ++ glos1 ++ glos2 ++ glos3 ++ glos4 ++ glos5 ++ glos6 ++ glos7 ++ glos8
def frees0 : List Str := ["int", "len", "list", "isinstance", "range", "str", "bool", "max"]
def frees1 : List Str := ["min", "tuple", "all", "set", "sorted", "enumerate", "sum"]
def frees : List Str := frees0 ++ frees1
def owns0 : List Str := ["Straight", "Place", "AtLeast", "Rest", "Read", "Statement", "Loop", "Program"]
def owns1 : List Str := ["Log"]
def owns : List Str := owns0 ++ owns1
def atts0 : List (Str × Str) := [("Straight", "i"), ("Straight", "n"), ("Straight", "one"), ("Place", "straight"), ("Place", "divisor"), ("AtLeast", "straight"), ("Rest", "straight"), ("Rest", "modulus")]
def atts1 : List (Str × Str) := [("Rest", "rest"), ("Read", "array"), ("Read", "place"), ("Read", "factor"), ("Statement", "array"), ("Statement", "cell"), ("Statement", "constant"), ("Statement", "reads")]
def atts2 : List (Str × Str) := [("Statement", "conditions"), ("Loop", "low"), ("Loop", "high"), ("Loop", "statements"), ("Loop", "step"), ("Loop", "down"), ("Program", "loops"), ("Program", "arrays")]
def atts3 : List (Str × Str) := [("Program", "known"), ("Log", "works"), ("Log", "writes"), ("Log", "takes"), ("Log", "numbers"), ("Log", "writers")]
def atts : List (Str × Str) := atts0 ++ atts1 ++ atts2 ++ atts3
def mets0 : List (Str × Str) := [("Straight", "__init__"), ("Straight", "__call__"), ("Place", "__init__"), ("Place", "__call__"), ("AtLeast", "__init__"), ("AtLeast", "holds"), ("Rest", "__init__"), ("Rest", "holds")]
def mets1 : List (Str × Str) := [("Read", "__init__"), ("Statement", "__init__"), ("Statement", "is_done"), ("Loop", "__init__"), ("Loop", "many_turns"), ("Loop", "counter_of"), ("Loop", "least_counter"), ("Program", "__init__")]
def mets2 : List (Str × Str) := [("Log", "__init__"), ("Log", "last_writer"), ("Log", "term_of"), ("Log", "term_below")]
def mets : List (Str × Str) := mets0 ++ mets1 ++ mets2
def oprs0 : List (Str × String) := []
def oprs : List (Str × String) := oprs0
def excs0 : List (Str × List Str) := [("BadName", ["name"]), ("BadNumber", ["what", "number"]), ("BadSize", ["n"]), ("TooMany", ["what", "many", "limit"]), ("TooLong", ["many"]), ("NoWork", ["work"])]
def excs : List (Str × List Str) := excs0
def kits (K : PySem.W.Frag) : Bool := true && decide (PySem.W.kitOne K (.ref (He.ga K "Straight")) (.type "int") = some false) && decide (PySem.W.kitOne K (.ref (He.ga K "Straight")) (.ref (He.ga K "Straight")) = some true) && decide (PySem.W.kitOne K (.ref (He.ga K "Straight")) (.ref (He.ga K "Place")) = some false) && decide (PySem.W.kitOne K (.ref (He.ga K "Place")) (.ref (He.ga K "Place")) = some true) && decide (PySem.W.kitOne K (.ref (He.ga K "Place")) (.ref (He.ga K "Straight")) = some false) && decide (PySem.W.kitOne K (.type "int") (.ref (He.ga K "Place")) = some false) && decide (PySem.W.kitOne K (.type "int") (.ref (He.ga K "Straight")) = some false) && decide (PySem.W.kitOne K (.type "int") (.type "int") = some true) && decide (PySem.W.kitOne K (.type "int") (.type "bool") = some false)
def insB (K : PySem.W.Frag) (C : Addr) : Bool := He.eqO (PySem.W.findIn K (.ref C) "__class__") (some (some (.builtin "object.__class__"))) && (He.eqO (PySem.W.specialIn K (.builtin "object.__class__") "__get__") (some (some (.builtin "getset_descriptor.__get__"))) && (decide (PySem.W.takesIn K (.builtin "object.__class__") = some true) && decide (PySem.W.mroIn K C (.type "object") = some true)))
def fa : List FaK := [
  fun K => glos.all fun x => (He.Fa.glo x).ok K,
  fun K => frees.all fun x => (He.Fa.free x).ok K,
  fun K => owns.all fun x => (He.Fa.cls x).ok K && ((He.Fa.mkr x).ok K && insB K (He.ga K x)),
  fun K => atts.all fun q => (He.Fa.noat q.1 q.2).ok K,
  fun K => mets.all fun q => (He.Fa.meth q.1 q.2).ok K,
  fun K => oprs.all fun q => opiB K (He.ga K q.1) q.2,
  fun K => excs.all fun q => exkB K (He.ga K q.1) && (oexB K (He.ga K q.1) && (He.eqO (PySem.W.findIn K (.ref (He.ga K q.1)) "__init__") (some (some (.ref (He.ma K (He.ga K q.1) "__init__")))) && (decide (PySem.W.typeIn K (.ref (He.ma K (He.ga K q.1) "__init__")) = some (.type "function")) &&
    q.2.all fun f => He.eqO (PySem.W.findIn K (.ref (He.ga K q.1)) f) (some none)))),
  kits,
  fun K => He.eqO (PySem.W.nsIn K mainGlobals "gcd") (some (some (.builtin "math.gcd"))),
  fun K => ([("BadSize", "BadSize", true), ("TooLong", "TooLong", true), ("TooLong", "BadSize", false), ("NoWork", "NoWork", true), ("BadNumber", "NoWork", false), ("BadNumber", "BadNumber", true)] : List (Str × Str × Bool)).all fun q => decide (PySem.W.exmOne K (.ref (He.ga K q.1)) (.ref (He.ga K q.2.1)) = some q.2.2),
  fun K => ([("TOP_PART", 12), ("TOP_ONE", 999), ("TOP_RANGE_PART", 3), ("TOP_DIVISOR", 3), ("TOP_STEP", 16), ("MOST_LOOPS", 6), ("MOST_STATEMENTS", 16), ("MOST_READS", 3), ("MOST_CONDITIONS", 3), ("TOP_MODULUS", 4), ("MOST_TURNS", 20000), ("MOST_DEPTH", 4), ("TOP_SIZE", 1000000000000000000000000000000)] : List (Str × Int)).all fun q => (match PySem.W.nsIn K mainGlobals q.1 with | some (some (.int i _)) => decide (i = q.2) | _ => false),
  fun K => (He.Fa.glo "KEPT_WORDS").ok K && He.tupB K "KEPT_WORDS" (kept.map He.Dv.str),
  fun K => (match PySem.W.nsIn K mainGlobals "LETTERS" with | some (some (.str x _)) => decide (x = lets) | _ => false),
  fun K => (["reads", "conditions"] : List Str).all fun x => (match K.lookup (kwAt x K) with | some ⟨.type c, _, .seq its _, _⟩ => decide (c = "tuple") && decide (its.size = 0) | _ => false)]
abbrev R : PySem.W.OpenRow := PySem.W.OpenLaw.row PySem.Challenge.rw_loopsize_k26_logs_of_plain_runs
abbrev hk : PySem.W.Hook := hookR 1000 fa fn
def ob (s : PySem.W.SharedT) : He.AlD := obsRG 1000 fa fn (HandSHeadRun.getT s)
theorem ob_eq (s : PySem.W.SharedT) : ob s = hk.obs s.abs := obsRG_eq (HandSHeadRun.getT_eq s)
def names0 : List Str := ["_wall", "LoopError", "BadName", "BadNumber", "BadSize", "TooMany", "TooLong", "NoWork"]
def names1 : List Str := ["is_integer", "is_integer_from", "is_size", "is_array_name", "Straight", "Place", "is_straight", "straight_like"]
def names2 : List Str := ["place_like", "value_of", "added", "AtLeast", "Rest", "Read", "Statement", "Loop"]
def names3 : List Str := ["Program", "turns_from", "arrays_in", "check_many", "check_name", "check_number", "check_sum", "check_place"]
def names4 : List Str := ["check_range_place", "Log", "check_run", "works_of", "statement_of", "log_program", "_law_pen", "_law_draw"]
def names5 : List Str := ["_law_pick", "_law_big", "_law_between", "_law_name", "_law_names", "_law_value", "_law_guard_holds", "_law_small_guard"]
def names6 : List Str := ["_law_small_statement", "_law_small_loop", "_law_small_rows", "_law_counters", "_law_works", "_law_sum", "_law_made_guard", "_law_made_statement"]
def names7 : List Str := ["_law_made_loop", "_law_made", "_law_log", "_law_told", "_law_term_told", "_law_term", "_law_turns_far", "_law_log_right"]
def names8 : List Str := ["TOP_SIZE", "LETTERS", "KEPT_WORDS", "TOP_MODULUS", "TOP_PART", "TOP_ONE", "TOP_DIVISOR", "TOP_RANGE_PART"]
def names9 : List Str := ["TOP_STEP", "MOST_LOOPS", "MOST_STATEMENTS", "MOST_READS", "MOST_CONDITIONS", "MOST_TURNS", "MOST_DEPTH"]
def names : List Str := names0 ++ names1 ++ names2 ++ names3 ++ names4 ++ names5 ++ names6 ++ names7 ++ names8 ++ names9
end K26
set_option maxHeartbeats 0
namespace K26
open PySem PySem.Spec PyProof.Rows L2 Z
theorem run1 (w : World) : (HandSHeadRun.wholeF (fun p => HandSHeadRun.stepQ (HandSHeadRun.denQ HandSHeadRun.tabQ) p w) HandSHeadRun.fenceQ 60000 R.prog).map (fun x => HandSHeadRun.looksF R.prog x.1.heap x.2.abs) = some true := by
  kernel_rfl
theorem run2 (w : World) : (HandSHeadRun.wholeF (fun p => HandSHeadRun.stepQ (HandSHeadRun.denQ HandSHeadRun.tabQ) p w) HandSHeadRun.fenceQ 60000 R.prog).map (fun x => HandSHeadRun.seenQ (PySem.W.view R.prog [0, 87]) names (importedModules R.prog.main.body) (fun s => PySem.W.xlAt (PySem.W.view R.prog [0, 87]) [] s && PySem.W.recOk R.toRowW.records s) x.2.abs) = some (PySem.W.openGood (PySem.W.view R.prog [0, 87]) names) := by
  kernel_rfl
theorem run3 (w : World) : (HandSHeadRun.wholeF (fun p => HandSHeadRun.stepQ (HandSHeadRun.denQ HandSHeadRun.tabQ) p w) HandSHeadRun.fenceQ 60000 R.prog).map (fun x => ob x.2) = some (hk.val w) := by
  kernel_rfl
theorem run (w : World) : HandSHeadRun.RunEqI R (PySem.W.view R.prog [0, 87]) hk ob 60000 names w := map3 (run1 w) (run2 w) (run3 w)
end K26
set_option maxHeartbeats 4000000
namespace K26
open PySem PySem.Spec PyProof.Rows L2 Z
abbrev FnP (K : PySem.W.Frag) (x : Str) (st : Stmt) (f : Addr) (fd : FuncData) : Prop := FunD K x x (defArgs st) (defBody st) (defScope st) [] [] f fd
/-- the built-in names that are still their own -/
structure Bt (mg : Str → Option Value) : Prop where
  int : mg "int" = none
  len : mg "len" = none
  list : mg "list" = none
/-- the pen, its cells at c -/
def PenC (H : Hp) (p c : Addr) (t : Nat) : Prop := ∃ (ns : List Int) (a l : Int), H p = some (.dK (penK c a l)) ∧ H c = some (.lst (ns.map V.int)) ∧ ns.length ≤ 63 ∧ 0 ≤ a ∧ a ≤ (t : Int) ∧ 0 ≤ l
def spDrawC : Sp := fun vs H Q _ => ∃ (p : Addr) (m : Int) (t : Nat) (c : Addr), vs = [.ref p, .int m] ∧ 0 < m ∧ m < 1073741824 ∧ t < 1000000000 ∧ PenC H p c t ∧ ∀ H' (d : Int), 0 ≤ d → d < m → PenC H' p c (t + 1) → Keep p H H' → Q (.int d) H'
theorem PenC.pen {H : Hp} {p c : Addr} {t : Nat} (h : PenC H p c t) : Pen H p t := by
  obtain ⟨ns, a, l, h⟩ := h
  exact ⟨c, ns, a, l, h⟩
theorem Pen.penC {H : Hp} {p : Addr} {t : Nat} (h : Pen H p t) : ∃ c, PenC H p c t := by
  obtain ⟨c, ns, a, l, h⟩ := h
  exact ⟨c, ns, a, l, h⟩
theorem PenC.has {H : Hp} {p c : Addr} {t : Nat} (h : PenC H p c t) : ∃ o, H c = some o := by
  obtain ⟨ns, a, l, _, h, _⟩ := h
  exact ⟨_, h⟩
theorem Dn.imp {P : Program} {w : World} {K : PySem.W.Frag} {mg : Str → Option Value} {base : Heap} {j : Nat} {x : Str} {ps : List Str} {sp sp' : Sp} (D : Dn P w K mg base j x ps sp) (i : ∀ vs H Q E, sp' vs H Q E → sp vs H Q E) : Dn P w K mg base j x ps sp' := by
  obtain ⟨f, fd, F, r⟩ := D
  exact ⟨f, fd, F.imp i, r⟩
section
variable {P : Program} {w : World} {K : PySem.W.Frag} {mg : Str → Option Value} {base : Heap}
theorem sc_law_pen : FnScope ["_law_script"] ["_law_script"] (defScope s_law_pen) := ⟨rfl, rfl, rfl, by decide +kernel, rfl, by decide +kernel, by decide +kernel⟩
theorem ok_pen {f : Addr} {fd : FuncData} (F : FnP K "_law_pen" s_law_pen f fd) (T : Bt mg) : FnOk P w K mg base CX0 1 f fd ["_law_script"] (spPen K) := by
  refine F.ok sc_law_pen (fun vs H Q E h => ?_) (fun cdv A outer s H vs Q E hr h => ?_)
  · obtain ⟨a, ns, rfl, _⟩ := h
    rfl
  · obtain ⟨a, ns, rfl, hS, hl, k⟩ := h
    have hu := hu_of hr
    refine ⟨_, PSs.nox (pss_one (ps_ret (pe_disp (pps_cons pe_str (pe_callTy call_list_of (by rfl) T.list (by decide +kernel) (pa_cons (pe_slice sl_list (pv 0) po_none (po_some pe_int)) pa_nil)) (pps_cons pe_str pe_int (pps_cons pe_str pe_int pps_nil))) (by rfl) (by rfl) (fun z => by cases z) (by decide)))), ?_⟩
    intro p hp
    refine ⟨_, rfl, _, rfl, a, ns.map V.int, rfl, ?_, fun q hq => ⟨q, _, rfl, .inl (SqL.of upd_same), fun l hl2 => ?_⟩⟩
    · exact Same.seq (Same.new _ (Same.refl H) hp) hS
    have npq : p ≠ q := fun z => by
      rw [← z, upd_same] at hq
      cases hq
    have npl : p ≠ l := fun z => by
      rw [← z, upd_ne npq, upd_same] at hl2
      cases hl2
    refine ⟨(by rw [upd_ne npl, upd_ne npq, upd_same]), penK l 0 0, rfl, (by show 3 ≤ 15; decide), ?_⟩
    have em : mergeK [] (penK l 0 0) = penK l 0 0 := by
      show putK (putK (putK [] (Sum.inr "cells" : Key) (.ref l)) (Sum.inr "at" : Key) (.int 0)) (Sum.inr "left" : Key) (.int 0) = penK l 0 0
      have e1 : putK ([] : List (Key × V)) (Sum.inr "cells" : Key) (.ref l) = [((Sum.inr "cells" : Key), V.ref l)] := putK_new (kvs := []) _ rfl
      have e2 : putK [((Sum.inr "cells" : Key), V.ref l)] (Sum.inr "at" : Key) (.int 0) = [((Sum.inr "cells" : Key), V.ref l), (Sum.inr "at", V.int 0)] := putK_new _ (by
        rw [valV_neg (key_ne ca_)]
        rfl)
      have e3 : putK [((Sum.inr "cells" : Key), V.ref l), (Sum.inr "at", V.int 0)] (Sum.inr "left" : Key) (.int 0) = penK l 0 0 := putK_new _ (by
        rw [valV_neg (key_ne cl_), valV_neg (key_ne al_)]
        rfl)
      rw [e1, e2, e3]
    rw [em]
    have hc : (cutV (ns.map V.int) none (some 63)) = (ns.map V.int) := by
      unfold cutV
      have e1 : HT.sIx (ns.map V.int).length 0 none = 0 := HT.sIx_none _ _
      have e2 : HT.sIx (ns.map V.int).length (ns.map V.int).length (some 63) = min 63 (ns.map V.int).length := HT.sIx_nat _ _ 63
      rw [e1, e2, List.drop_zero, List.length_map, Nat.sub_zero, Nat.min_eq_right hl, ← List.length_map (f := V.int), List.take_length]
    rw [hc]
    refine k _ p (fun b o e => ?_) hp ⟨l, ns, 0, 0, upd_same, by rw [upd_ne npl.symm, upd_same], hl, Int.le_refl 0, Int.le_refl 0, Int.le_refl 0⟩
    have nbp : b ≠ p := ne_of_none e hp
    have nbq : b ≠ q := fun z => by
      rw [← z, upd_ne nbp] at hq
      rw [hq] at e
      cases e
    have nbl : b ≠ l := fun z => by
      rw [← z, upd_ne nbq, upd_ne nbp] at hl2
      rw [hl2] at e
      cases e
    rw [upd_ne nbp, upd_ne nbl, upd_ne nbq, upd_ne nbp]
    exact e
theorem sc_law_draw : FnScope ["_law_pen_here", "_law_many", "_law_digit", "_law_spot", "_law_cell", "_law_mixed"] ["_law_pen_here", "_law_many"] (defScope s_law_draw) := ⟨rfl, rfl, rfl, by decide +kernel, rfl, by decide +kernel, by decide +kernel⟩
theorem ok_drawC {f : Addr} {fd : FuncData} (F : FnP K "_law_draw" s_law_draw f fd) (T : Bt mg) : FnOk P w K mg base CX0 1 f fd ["_law_pen_here", "_law_many"] spDrawC := by
  refine F.ok sc_law_draw (fun vs H Q E h => ?_) (fun cdv A outer s H vs Q E hr h => ?_)
  · obtain ⟨p, m, t, c, rfl, _⟩ := h
    rfl
  · obtain ⟨p, m, t, c, rfl, hm, hm2, ht, hP, k⟩ := h
    obtain ⟨ns, a, l, h1, h2, h3, h4, h5, h6⟩ := id hP
    have hu := hu_of hr
    have m0 : m ≠ 0 := by omega
    have mb : m.natAbs < 1073741824 := by omega
    have ncp : c ≠ p := ne_of h2 h1 lst_ne_dK
    have z1 : (2147483629 : Int) ≠ 0 := by decide
    have z2 : (2147483647 : Int) ≠ 0 := by decide
    have z3 : (2147483587 : Int) ≠ 0 := by decide
    have z4 : (2147483563 : Int) ≠ 0 := by decide
    refine ⟨_, PSs.nox (pss_cons (ps_if (pt_cmpR op_ge (pe_dget hu (pv 0) pe_str (fun _ _ => rfl)) (pv 1) (nomark _)) (pss_cons (ps_set (i := 2) sc_law_draw.nd rfl (Or.inl rfl) (pe_op op_modN (pe_callTy call_int1 (by rfl) T.int (by decide +kernel) (pa_cons (pe_dget hu (pv 0) pe_str (fun _ _ => rfl)) pa_nil)) (pv 1)))
      (pss_cons (ps_dput hu (pv 0) pe_str (pe_op op_fdivN (pe_dget hu (pv 0) pe_str (fun _ _ => rfl)) (pv 1)) rfl)
      (pss_one (ps_ret (pv 2))))) pss_nil)
      (pss_cons (ps_set (i := 3) sc_law_draw.nd rfl (Or.inl rfl) (pe_dget hu (pv 0) pe_str (fun _ _ => rfl)))
      (pss_cons (ps_dput hu (pv 0) pe_str (pe_op op_add (pv 3) pe_int) rfl)
      (pss_cons (ps_if (pt_cmpR (op_eqD hr.units) (pe_dget hu (pv 0) pe_str (fun _ _ => rfl)) (pe_lst pa_nil) (nomark _)) (pss_one (ps_ret (pe_op op_modN (pe_callTy call_int1 (by rfl) T.int (by decide +kernel) (pa_cons (pe_op op_add (pe_op op_mul pe_int (pv 3)) pe_int) pa_nil)) (pv 1)))) pss_nil)
      (pss_cons (ps_set (i := 4) sc_law_draw.nd rfl (Or.inl rfl) (pe_ix ix_list (pe_dget hu (pv 0) pe_str (fun _ _ => rfl)) (pe_op op_modN (pe_callTy call_int1 (by rfl) T.int (by decide +kernel) (pa_cons (pv 3) pa_nil)) (pe_callB call_len_seq (by rfl) T.len PySem.boot_len (pa_cons (pe_dget hu (pv 0) pe_str (fun _ _ => rfl)) pa_nil))) (fun _ _ => rfl)))
      (pss_cons (ps_if (PW.pt (pw_and (pt_cmpR op_lt (pv 3) (pe_callB call_len_seq (by rfl) T.len PySem.boot_len (pa_cons (pe_dget hu (pv 0) pe_str (fun _ _ => rfl)) pa_nil)) (nomark _)) (pw_and1 (pt_cmpR op_ge (pv 4) (pe_op op_pow pe_int pe_int) (nomark _))))) (pss_cons (ps_dput hu (pv 0) pe_str (pe_op op_fdivN (pe_op op_sub (pv 4) (pe_op op_pow pe_int pe_int)) (pv 1)) rfl)
      (pss_one (ps_ret (pe_op op_modN (pe_callTy call_int1 (by rfl) T.int (by decide +kernel) (pa_cons (pe_op op_sub (pv 4) (pe_op op_pow pe_int pe_int)) pa_nil)) (pv 1))))) pss_nil)
      (pss_cons (ps_set (i := 5) sc_law_draw.nd rfl (Or.inl rfl) (pe_op op_add (pe_op op_add (pe_op op_mul (pe_op op_add (pe_op op_modN (pe_callTy call_int1 (by rfl) T.int (by decide +kernel) (pa_cons (pv 4) pa_nil)) pe_int) pe_int) (pe_op op_add (pe_op op_mul pe_int (pv 3)) pe_int)) (pe_op op_mul (pe_op op_mul pe_int (pv 3)) (pv 3))) pe_int))
      (pss_cons (ps_set (i := 5) sc_law_draw.nd rfl (Or.inl rfl) (pe_op op_modN (pe_callTy call_int1 (by rfl) T.int (by decide +kernel) (pa_cons (pv 5) pa_nil)) pe_int))
      (pss_cons (ps_set (i := 5) sc_law_draw.nd rfl (Or.inl rfl) (pe_op op_modN (pe_callTy call_int1 (by rfl) T.int (by decide +kernel) (pa_cons (pe_op op_mul (pv 5) (pe_op op_add (pv 5) pe_int)) pa_nil)) pe_int))
      (pss_cons (ps_set (i := 5) sc_law_draw.nd rfl (Or.inl rfl) (pe_op op_modN (pe_callTy call_int1 (by rfl) T.int (by decide +kernel) (pa_cons (pe_op op_mul (pv 5) (pv 5)) pa_nil)) pe_int))
      (pss_one (ps_ret (pe_op op_modN (pe_callTy call_int1 (by rfl) T.int (by decide +kernel) (pa_cons (pe_op op_fdivN (pv 5) pe_int) pa_nil)) (pv 1)))))))))))))), ?_⟩
    refine ⟨_, rfl, p, _, rfl, pen_left h1, _, rfl, _, _, rfl, rfl, _, rfl, ?_⟩
    refine ite2 (fun _ => ?_) (fun _ => ?_)
    · refine ⟨_, rfl, p, _, rfl, pen_left h1, .inl ⟨_, rfl, _, rfl, _, _, rfl, rfl, m0, ?_⟩⟩
      refine ⟨_, rfl, p, _, rfl, pen_left h1, _, rfl, _, _, rfl, rfl, ⟨m0, mb⟩, _, rfl, p, _, rfl, pen_put_left _ h1, ?_⟩
      refine ⟨_, rfl, ?_⟩
      exact k _ _ (fmod_range hm).1 (fmod_range hm).2 ⟨ns, a, _, upd_same, by rw [upd_ne ncp]; exact h2, h3, h4, by omega, fdiv_nn h6 hm⟩ (Keep.upd _ (Keep.refl p H))
    · -- spot, at + 1
      refine ⟨_, rfl, p, _, rfl, pen_at h1, ?_⟩
      refine ⟨_, rfl, _, _, rfl, rfl, _, rfl, p, _, rfl, pen_put_at _ h1, ?_⟩
      have g1 : ∀ b, (upd H p (.dK (penK c (a + 1) b))) p = some (.dK (penK c (a + 1) b)) := fun b => upd_same
      have g2 : ∀ o, (upd H p o) c = some (.lst (ns.map V.int)) := fun o => by rw [upd_ne ncp]; exact h2
      have kE : ∀ o, Keep p H (upd H p o) := fun o => Keep.upd _ (Keep.refl p H)
      -- cells == []
      refine ⟨_, rfl, p, _, rfl, pen_cells (g1 _), Nat.zero_le _, fun e he => ?_⟩
      have nep : e ≠ p := fun z => by
        rw [z, upd_same] at he
        cases he
      have nec : e ≠ c := fun z => by
        rw [z, g2] at he
        cases he
      have g1' : ∀ o, (upd (upd H p (.dK (penK c (a + 1) l))) e o) p = some (.dK (penK c (a + 1) l)) := fun o => by rw [upd_ne nep.symm, upd_same]
      have g2' : ∀ o, (upd (upd H p (.dK (penK c (a + 1) l))) e o) c = some (.lst (ns.map V.int)) := fun o => by rw [upd_ne nec.symm]; exact g2 _
      have kE' : ∀ o, Keep p H (upd (upd H p (.dK (penK c (a + 1) l))) e o) := fun o => Keep.new _ (kE _) he
      have pen' : ∀ o, PenC (upd (upd H p (.dK (penK c (a + 1) l))) e o) p c (t + 1) := fun o => ⟨ns, a + 1, l, g1' _, g2' _, h3, by omega, by omega, h6⟩
      refine ⟨.list (ns.map PyData.int), .list [], .lst (SqL.of (g2' _)) (dpAll_ints ns), .lst (SqL.of upd_same) .nil, shaped_ints ns, shaped_nil, _, rfl, ?_⟩
      rw [eqv_ints_nil]
      refine ite2 (fun hc => ?_) (fun hc => ?_)
      · refine ⟨_, rfl, _, _, rfl, rfl, .inl ⟨by decide, by decide⟩, _, _, rfl, rfl, .inl ⟨_, rfl, _, rfl, _, _, rfl, rfl, m0, ?_⟩⟩
        exact k _ _ (fmod_range hm).1 (fmod_range hm).2 (pen' _) (kE' _)
      · have hpos : 0 < ns.length := by
          cases ns with
          | nil => exact absurd rfl hc
          | cons n ns => exact Nat.succ_pos _
        have hposI : (0 : Int) < ((ns.map V.int).length : Int) := by
          rw [List.length_map]
          omega
        have fr := fmod_range (x := a) hposI
        obtain ⟨j, hj⟩ : ∃ j : Nat, a.fmod ((ns.map V.int).length : Int) = (j : Int) := ⟨(a.fmod ((ns.map V.int).length : Int)).toNat, by omega⟩
        have hjl : j < ns.length := by
          have z := fr.2
          rw [hj, List.length_map] at z
          omega
        refine ⟨_, rfl, p, _, rfl, pen_cells (g1' _), _, rfl, .inl ⟨_, rfl, _, rfl, p, _, rfl, pen_cells (g1' _), c, _, rfl, .inl (SqL.of (g2' _)), _, _, rfl, rfl, by omega, ?_⟩⟩
        refine ⟨c, _, (j : Int), _, rfl, congrArg V.int hj, SqL.of (g2' _), atI_nat (get_ints hjl), ?_⟩
        generalize hz : ns[j]'hjl = z
        -- spot < len(cells) and cell >= 10 ** 18
        refine ⟨_, rfl, _, rfl, p, _, rfl, pen_cells (g1' _), c, _, rfl, .inl (SqL.of (g2' _)), _, _, rfl, rfl, _, rfl, ?_⟩
        refine ite2 (fun _ => ?_) (fun _ => iteF ?_)
        · refine ⟨_, rfl, _, _, rfl, rfl, ⟨by decide, by decide, by decide⟩, _, _, rfl, rfl, _, rfl, ?_⟩
          refine ite2 (fun hz18 => ?_) (fun _ => ?_)
          · refine ⟨_, rfl, _, _, rfl, rfl, ⟨by decide, by decide, by decide⟩, _, _, rfl, rfl, _, rfl, _, _, rfl, rfl, ⟨m0, mb⟩, _, rfl, p, _, rfl, pen_put_left _ (g1' _), ?_⟩
            refine ⟨_, rfl, _, _, rfl, rfl, ⟨by decide, by decide, by decide⟩, _, _, rfl, rfl, .inl ⟨_, rfl, _, rfl, _, _, rfl, rfl, m0, ?_⟩⟩
            have hz0 : (0 : Int) ≤ z - 10 ^ (18 : Int).toNat := Int.sub_nonneg_of_le (of_decide_eq_true hz18)
            exact k _ _ (fmod_range hm).1 (fmod_range hm).2 ⟨ns, a + 1, _, upd_same, by rw [upd_ne ncp]; exact g2' _, h3, by omega, by omega, fdiv_nn hz0 hm⟩ (Keep.upd _ (kE' _))
          · refine ⟨_, rfl, .inl ⟨_, rfl, _, _, rfl, rfl, z1, _, _, rfl, rfl, _, rfl, _, _, rfl, rfl, .inl ⟨by decide, by decide⟩, _, _, rfl, rfl, _, _, rfl, rfl, .inl (mul_okf1 (by decide) (by decide)), ?_⟩⟩
            refine ⟨_, rfl, _, _, rfl, rfl, .inl ⟨by decide, by decide⟩, _, rfl, _, _, rfl, rfl, .inr ⟨by omega, by omega⟩, _, _, rfl, rfl, _, _, rfl, rfl, ?_⟩
            refine ⟨_, rfl, .inl ⟨_, rfl, _, _, rfl, rfl, z2, ?_⟩⟩
            refine ⟨_, rfl, _, rfl, _, _, rfl, rfl, _, _, rfl, rfl, .inl (mul_okf (by decide) (by decide)), .inl ⟨_, rfl, _, _, rfl, rfl, z3, ?_⟩⟩
            refine ⟨_, rfl, _, rfl, _, _, rfl, rfl, .inl (mul_okf (by decide) (by decide)), .inl ⟨_, rfl, _, _, rfl, rfl, z4, ?_⟩⟩
            refine ⟨_, rfl, _, _, rfl, rfl, ⟨by decide, by decide⟩, .inl ⟨_, rfl, _, rfl, _, _, rfl, rfl, m0, ?_⟩⟩
            exact k _ _ (fmod_range hm).1 (fmod_range hm).2 (pen' _) (kE' _)
        · refine ⟨_, rfl, .inl ⟨_, rfl, _, _, rfl, rfl, z1, _, _, rfl, rfl, _, rfl, _, _, rfl, rfl, .inl ⟨by decide, by decide⟩, _, _, rfl, rfl, _, _, rfl, rfl, .inl (mul_okf1 (by decide) (by decide)), ?_⟩⟩
          refine ⟨_, rfl, _, _, rfl, rfl, .inl ⟨by decide, by decide⟩, _, rfl, _, _, rfl, rfl, .inr ⟨by omega, by omega⟩, _, _, rfl, rfl, _, _, rfl, rfl, ?_⟩
          refine ⟨_, rfl, .inl ⟨_, rfl, _, _, rfl, rfl, z2, ?_⟩⟩
          refine ⟨_, rfl, _, rfl, _, _, rfl, rfl, _, _, rfl, rfl, .inl (mul_okf (by decide) (by decide)), .inl ⟨_, rfl, _, _, rfl, rfl, z3, ?_⟩⟩
          refine ⟨_, rfl, _, rfl, _, _, rfl, rfl, .inl (mul_okf (by decide) (by decide)), .inl ⟨_, rfl, _, _, rfl, rfl, z4, ?_⟩⟩
          refine ⟨_, rfl, _, _, rfl, rfl, ⟨by decide, by decide⟩, .inl ⟨_, rfl, _, rfl, _, _, rfl, rfl, m0, ?_⟩⟩
          exact k _ _ (fmod_range hm).1 (fmod_range hm).2 (pen' _) (kE' _)
end
end K26
set_option maxHeartbeats 4000000
namespace K26
open PySem PySem.Spec PyProof.Rows L2 Z
abbrev FnM (K : PySem.W.Frag) (C m q : Str) (st : Stmt) (fd : FuncData) : Prop := FunD K m q (defArgs st) (defBody st) (defScope st) [] [] (He.ma K (He.ga K C) m) fd
section
variable {P : Program} {w : World} {K : PySem.W.Frag} {mg : Str → Option Value} {base : Heap}
/-- what may be called as Straight(a, b, c) -/
def MkS (P : Program) (w : World) (K : PySem.W.Frag) (mg : Str → Option Value) (base : Heap) : Prop := ∃ fd, FnOk P w K mg base CX0 1 (He.ma K (CS K) "__init__") fd ["self", "i", "n", "one"] (spSI K) ∧ Binds K fd ["self", "i", "n", "one"] []
theorem scStraight__init__ : FnScope ["self", "i", "n", "one"] ["self", "i", "n", "one"] (defScope iStraight__init__) := ⟨rfl, rfl, rfl, by decide +kernel, rfl, by decide +kernel, by decide +kernel⟩
theorem mk_S {fd : FuncData} (T : StTx K mg) (F : FnM K "Straight" "__init__" "Straight.__init__" iStraight__init__ fd) : MkS P w K mg base := by
  refine ⟨fd, ?_, F.bindsN fun _ _ _ _ _ _ us hl => match us, hl with | [_, _, _, _], _ => rfl⟩
  refine F.ok scStraight__init__ (fun vs H Q E h => ?_) (fun cdv A outer s H vs Q E hr h => ?_)
  · obtain ⟨p, dx, a, b, c, rfl, _⟩ := h
    rfl
  · obtain ⟨p, dx, a, b, c, rfl, hp, k⟩ := h
    refine ⟨_, PSs.nox (pss_cons (ps_fld (pv 0) (pv 1) rfl)
      (pss_cons (ps_fld (pv 0) (pv 2) rfl)
      (pss_one (ps_fld (pv 0) (pv 3) rfl)))), ?_⟩
    refine ⟨_, rfl, _, rfl, p, _, dx, [], rfl, hp, T.clS, T.nI, (by show 0 < 1000; decide), ?_⟩
    refine ⟨_, rfl, _, rfl, p, _, dx, _, rfl, upd_same, T.clS, T.nN, (by show 1 < 1000; decide), ?_⟩
    refine ⟨_, rfl, _, rfl, p, _, dx, _, rfl, upd_same, T.clS, T.nO, len2 _ _ _ _, ?_⟩
    exact k _ upd_same (fun b o nb e => by rw [upd_ne nb, upd_ne nb, upd_ne nb]; exact e)
theorem pe_S {X : Cx} {e : Expr} {es : List Expr} {t : TA} {p pos : Pos} {k : Nat} (T : StTx X.K X.mg) (M : MkS X.prog X.w X.K X.mg X.base) (hr : Room k X.A) (ha : PA X (e :: es) t) (hk : 2 ≤ k := by decide) (hg : Gl X "Straight" := by rfl)
    (he : starEach (e :: es) X.env = (false, eval e X.env) :: starEach es X.env := by rfl) (hpl : (backTo pos (starEach es X.env)).any (·.1) = false := by rfl) :
    PE X (.Call (.Name "Straight" p) (e :: es) [] pos) (fun σ H Q => t σ H fun vs H1 => ∃ a b c, vs = [.int a, .int b, .int c] ∧ NewS X.K H1 a b c Q) := by
  obtain ⟨fd, F, hb⟩ := M
  refine ⟨fun pins s σ H Q I h => ?_⟩
  refine wpAny_Call_Name_kw (ld_glob I hg T.gS ?_ (by decide))
  refine PySem.W.callWith_K (h₀ := X.base) I.ok.mod.kin T.mkS.kp (thn (ha.run pos pins s σ H _ I h) fun us s1 ⟨vs, H1, I1, r, a, b, c, ev, q⟩ => ⟨I1.kIn, ?_⟩) he hpl
  subst ev
  exact run_make T.mkS F (hr.mono hk) hb .nil pass0 I1 r fun x dx nx nd ne => ⟨x, dx, a, b, c, rfl, upd_same, fun H' hx kp => ⟨rfl, q x H' (Same.made (Same.refl H1) nx nd kp) nx ⟨dx, hx⟩⟩⟩
theorem sc_is_integer : FnScope ["value"] ["value"] (defScope s_is_integer) := ⟨rfl, rfl, rfl, by decide +kernel, rfl, by decide +kernel, by decide +kernel⟩
theorem ok_isInt {f : Addr} {fd : FuncData} (F : FnP K "is_integer" s_is_integer f fd) (T : StTx K mg) : FnOk P w K mg base CX0 1 f fd ["value"] (spIsInt K) := by
  refine F.ok sc_is_integer (fun vs H Q E h => ?_) (fun cdv A outer s H vs Q E hr h => ?_)
  · obtain ⟨v, rfl, _⟩ := h
    rfl
  · obtain ⟨v, rfl, h⟩ := h
    refine ⟨_, PSs.nox (pss_one (ps_ret (pe_and (pe_callB call_isi (by rfl) T.isi (by decide +kernel) (pa_cons (pv 0) (pa_cons (pe_bltn (v := .ty "int") (by rfl) T.int (by decide +kernel) rfl) pa_nil))) (pe_one (pe_not (pe_callB call_isi (by rfl) T.isi (by decide +kernel) (pa_cons (pv 0) (pa_cons (pe_bltn (v := .ty "bool") (by rfl) T.bool (by decide +kernel) rfl) pa_nil)))))))), ?_⟩
    rcases h with ⟨i, rfl, q⟩ | ⟨p, a, b, c, rfl, hp, q⟩
    · refine ⟨_, rfl, _, _, _, _, _, rfl, .ty _, .base (.int i), kii, _, rfl, iteT ?_⟩
      exact ⟨_, rfl, _, _, _, _, _, rfl, .ty _, .base (.int i), kib, _, rfl, q⟩
    · exact ⟨_, rfl, _, _, _, _, _, rfl, .ty _, .base (T.ty hp), T.kSi, _, rfl, iteF q⟩
theorem sc_straight_like : FnScope ["value"] ["value"] (defScope s_straight_like) := ⟨rfl, rfl, rfl, by decide +kernel, rfl, by decide +kernel, by decide +kernel⟩
theorem ok_like {f : Addr} {fd : FuncData} (F : FnP K "straight_like" s_straight_like f fd) (T : StTx K mg) (M : MkS P w K mg base) : FnOk P w K mg base CX0 3 f fd ["value"] (spLike K) := by
  refine F.ok sc_straight_like (fun vs H Q E h => ?_) (fun cdv A outer s H vs Q E hr h => ?_)
  · obtain ⟨v, _, _, _, rfl, _⟩ := h
    rfl
  · obtain ⟨v, a, b, c, rfl, h, q⟩ := h
    refine ⟨_, PSs.nox (pss_one (ps_ret (pe_ifExp (pt_val (pe_callB call_isi (by rfl) T.isi (by decide +kernel) (pa_cons (pv 0) (pa_cons (pe_glob (v := .ref (CS K)) rfl T.gS rfl) pa_nil)))) (pv 0) (pe_S T M hr (pa_cons pe_int (pa_cons pe_int (pa_cons (pv 0) pa_nil))))))), ?_⟩
    rcases h with ⟨p, rfl, hp⟩ | ⟨rfl, rfl, rfl⟩
    · refine ⟨_, rfl, _, _, _, _, _, rfl, .own _, .base (T.ty hp), T.kSS, _, rfl, iteT ?_⟩
      exact ⟨_, rfl, q p H (Same.refl H) hp⟩
    · refine ⟨_, rfl, _, _, _, _, _, rfl, .own _, .base (.int c), T.kiS, _, rfl, iteF ?_⟩
      exact ⟨_, rfl, 0, 0, c, rfl, fun p H' s _ hp => q p H' s hp⟩
theorem sc_value_of : FnScope ["straight", "i", "n"] ["straight", "i", "n"] (defScope s_value_of) := ⟨rfl, rfl, rfl, by decide +kernel, rfl, by decide +kernel, by decide +kernel⟩
theorem ok_val {f : Addr} {fd : FuncData} (F : FnP K "value_of" s_value_of f fd) (T : StTx K mg) : FnOk P w K mg base CX0 1 f fd ["straight", "i", "n"] (spVal K) := by
  refine F.ok sc_value_of (fun vs H Q E h => ?_) (fun cdv A outer s H vs Q E hr h => ?_)
  · obtain ⟨p, a, b, c, i, n, rfl, _⟩ := h
    rfl
  · obtain ⟨p, a, b, c, i, n, rfl, ⟨dx, hp⟩, sa, sb, q⟩ := h
    refine ⟨_, PSs.nox (pss_one (ps_ret (pe_op op_add (pe_op op_add (pe_op op_mul (pe_fld (pv 0) rfl) (pv 1)) (pe_op op_mul (pe_fld (pv 0) rfl) (pv 2))) (pe_fld (pv 0) rfl)))), ?_⟩
    refine ⟨_, rfl, p, _, dx, _, _, rfl, hp, T.clS, T.nI, sf_i _ _ _, _, rfl, _, _, rfl, rfl, .inl sa, ?_⟩
    refine ⟨_, rfl, p, _, dx, _, _, rfl, hp, T.clS, T.nN, sf_n _ _ _, _, rfl, _, _, rfl, rfl, .inl sb, _, _, rfl, rfl, ?_⟩
    exact ⟨_, rfl, p, _, dx, _, _, rfl, hp, T.clS, T.nO, sf_one _ _ _, _, _, rfl, rfl, q⟩
end
end K26
set_option maxHeartbeats 4000000
namespace K26
open PySem PySem.Spec PyProof.Rows L2 Z
section
variable {P : Program} {w : World} {K : PySem.W.Frag} {mg : Str → Option Value} {base : Heap}
theorem sc_is_integer_from : FnScope ["value", "low", "high"] ["value", "low", "high"] (defScope s_is_integer_from) := ⟨rfl, rfl, rfl, by decide +kernel, rfl, by decide +kernel, by decide +kernel⟩
theorem ok_intFrom {f : Addr} {fd : FuncData} (F : FnP K "is_integer_from" s_is_integer_from f fd) (dIsInt : Dn P w K mg base 1 "is_integer" ["value"] (spIsInt K)) : FnOk P w K mg base CX0 2 f fd ["value", "low", "high"] spIntFrom := by
  refine F.ok sc_is_integer_from (fun vs H Q E h => ?_) (fun cdv A outer s H vs Q E hr h => ?_)
  · obtain ⟨v, lo, hi, rfl, _⟩ := h
    rfl
  · obtain ⟨v, lo, hi, rfl, k⟩ := h
    refine ⟨_, PSs.nox (pss_one (ps_ret (pe_and (pe_dn dIsInt hr (pa_cons (pv 0) pa_nil)) (pe_one (pe_chain op_le op_le (pv 1) (pv 0) (pv 2)))))), ?_⟩
    refine ⟨_, rfl, _, rfl, .inl ⟨v, rfl, _, rfl, iteT ?_⟩⟩
    refine ⟨_, rfl, _, rfl, _, _, rfl, rfl, _, rfl, ite2 (fun h => ?_) (fun h => ?_)⟩
    · have h1 : lo ≤ v := of_decide_eq_true h
      refine ⟨_, rfl, _, _, rfl, rfl, ?_⟩
      rw [show decide (lo ≤ v ∧ v ≤ hi) = decide (v ≤ hi) from decide_eq_decide.mpr ⟨fun z => z.2, fun z => ⟨h1, z⟩⟩] at k
      exact k
    · have h1 : ¬ lo ≤ v := fun z => h (decide_eq_true z)
      rw [decide_eq_false (fun z => h1 z.1)] at k
      exact k
theorem scBadNumber__init__ : FnScope ["self", "what", "number"] ["self", "what", "number"] (defScope iBadNumber__init__) := ⟨rfl, rfl, rfl, by decide +kernel, rfl, by decide +kernel, by decide +kernel⟩
theorem mxBadNumber {fd : FuncData} (T : EC K mg "BadNumber" ["what", "number"]) (F : FnM K "BadNumber" "__init__" "BadNumber.__init__" iBadNumber__init__ fd) : Mx P w K mg base "BadNumber" ["self", "what", "number"] ["what", "number"] := by
  refine ⟨T, fd, ?_, F.bindsN fun _ _ _ _ _ _ us hl => match us, hl with | [_, _, _], _ => rfl⟩
  refine F.ok scBadNumber__init__ (fun vs H Q E h => ?_) (fun cdv A outer s H vs Q E hr h => ⟨_, PSs.nox (pss_cons (ps_ost (pv 0) (pv 1)) (pss_one (ps_ost (pv 0) (pv 2)))), rd_err2 T h⟩)
  obtain ⟨a, ws, rfl, e, _⟩ := h
  rw [List.length_cons, e]
  rfl
/-- what may be called as Place(v, d) -/
def MkP (P : Program) (w : World) (K : PySem.W.Frag) (mg : Str → Option Value) (base : Heap) : Prop := ∃ fd, FnOk P w K mg base (L2.CX P w) 4 (He.ma K (CP K) "__init__") fd ["self", "straight", "divisor"] (spPG K) ∧ Binds K fd ["self", "straight", "divisor"] []
theorem scPlace__init__ : FnScope ["self", "straight", "divisor", "told", "common"] ["self", "straight", "divisor"] (defScope iPlace__init__) := ⟨rfl, rfl, rfl, by decide +kernel, rfl, by decide +kernel, by decide +kernel⟩
theorem mk_P {fd : FuncData} (T : PlTx K mg) (M : MkS P w K mg base) (MB : Mx P w K mg base "BadNumber" ["self", "what", "number"] ["what", "number"]) (dLike : Dn P w K mg base 3 "straight_like" ["value"] (spLike K))
    (F : FnM K "Place" "__init__" "Place.__init__" iPlace__init__ fd) : MkP P w K mg base := by
  refine ⟨fd, ?_, F.bindsN fun _ _ _ _ _ _ us hl => match us, hl with | [_, _, _], _ => rfl⟩
  refine F.ok scPlace__init__ (fun vs H Q E h => ?_) (fun cdv A outer s H vs Q E hr h => ?_)
  · obtain ⟨p, dx, v, a, b, c, d, rfl, _⟩ := h
    rfl
  · obtain ⟨p, dx, v, a, b, c, d, rfl, hp, hv, hbad, hok⟩ := h
    refine ⟨_, (pss_cons (ps_if (pt_cmpR op_lt (pv 2) pe_int (nomark _)) (pss_one (ps_raise rfl (takes_of rfl rfl rfl rfl) (pmk_err MB hr (pa_cons pe_str (pa_cons (pv 2) pa_nil))))) pss_nil)
      (pss_cons (ps_set (i := 3) scPlace__init__.nd rfl (Or.inl rfl) (pe_dn dLike hr (pa_cons (pv 1) pa_nil)))
      (pss_cons (ps_set (i := 4) scPlace__init__.nd rfl (Or.inl rfl) (pe_callBfun cr_gcd (by rfl) T.gcd (pa_cons (pe_callBfun cr_gcd (by rfl) T.gcd (pa_cons (pe_fld (pv 3) rfl) (pa_cons (pe_fld (pv 3) rfl) pa_nil))) (pa_cons (pv 2) pa_nil))))
      (pss_cons (ps_fld (pv 0) (pe_S T.toStTx M hr (pa_cons (pe_op op_fdivN (pe_fld (pv 3) rfl) (pv 4)) (pa_cons (pe_op op_fdivN (pe_fld (pv 3) rfl) (pv 4)) (pa_cons (pe_op op_fdivN (pe_fld (pv 3) rfl) (pv 4)) pa_nil)))) rfl)
      (pss_one (ps_fld (pv 0) (pe_op op_fdivN (pv 2) (pv 4)) rfl)))))), ?_⟩
    refine ⟨_, rfl, _, _, rfl, rfl, _, rfl, ite2 (fun hd => ?_) (fun hd => ?_)⟩
    · exact ⟨_, rfl, err_go (K := K) (x := "BadNumber") (fs := ["what", "number"]) (by show 2 ≤ 1000; decide) rfl fun e H' s he => hbad (of_decide_eq_true hd) e H' s he⟩
    · have d1 : 1 ≤ d := by
        have z : ¬ d < 1 := fun z => hd (decide_eq_true z)
        omega
      obtain ⟨d2, k⟩ := hok d1
      have hg0 : 0 < gg a b d := Nat.gcd_pos_of_pos_right _ (by omega)
      have hgd : gg a b d ≤ d.natAbs := Nat.le_of_dvd (by omega) (Nat.gcd_dvd_right _ _)
      have hgc : CDivN a (gg a b d : Int) ∧ CDivN b (gg a b d : Int) ∧ CDivN c (gg a b d : Int) ∧ CDivN d (gg a b d : Int) := by
        unfold CDivN
        have e : ((gg a b d : Nat) : Int) ≠ 0 ∧ ((gg a b d : Nat) : Int).natAbs < 1073741824 := ⟨by omega, by omega⟩
        exact ⟨e, e, e, e⟩
      obtain ⟨ga_, gb_, gc_, gd_⟩ := hgc
      refine ⟨_, rfl, v, a, b, c, rfl, hv, fun q H1 s1 hq => ?_⟩
      obtain ⟨dq, hq⟩ := hq
      refine ⟨_, rfl, q, _, dq, _, _, rfl, hq, T.clS, T.nI, sf_i _ _ _, _, rfl, q, _, dq, _, _, rfl, hq, T.clS, T.nN, sf_n _ _ _, _, _, rfl, _, rfl, _, _, rfl, ?_⟩
      refine ⟨_, rfl, q, _, dq, _, _, rfl, hq, T.clS, T.nI, sf_i _ _ _, _, rfl, _, _, rfl, rfl, ga_, ?_⟩
      refine ⟨_, rfl, q, _, dq, _, _, rfl, hq, T.clS, T.nN, sf_n _ _ _, _, rfl, _, _, rfl, rfl, gb_, ?_⟩
      refine ⟨_, rfl, q, _, dq, _, _, rfl, hq, T.clS, T.nO, sf_one _ _ _, _, rfl, _, _, rfl, rfl, gc_, ?_⟩
      refine ⟨_, _, _, rfl, fun r H2 s2 hr1 hr2 => ?_⟩
      have hp2 : H2 p = some (.ins (CP K) dx []) := s2 _ _ (s1 _ _ hp)
      have npr : r ≠ p := fun z => by
        rw [z, s1 _ _ hp] at hr1
        cases hr1
      refine ⟨_, rfl, p, _, dx, _, rfl, hp2, T.clP, T.nS, (by show 0 < 1000; decide), ?_⟩
      refine ⟨_, rfl, _, rfl, _, _, rfl, rfl, gd_, _, rfl, p, _, dx, _, rfl, upd_same, T.clP, T.nD, len1 _ _, ?_⟩
      obtain ⟨dr, hr3⟩ := hr2
      refine k r _ upd_same ⟨dr, by rw [upd_ne npr, upd_ne npr]; exact hr3⟩ (fun b o nb e => ?_)
      rw [upd_ne nb, upd_ne nb]
      exact s2 _ _ (s1 _ _ e)
theorem pe_P {X : Cx} {e : Expr} {es : List Expr} {t : TA} {p pos : Pos} {k : Nat} {E : L2.St → XK} (T : PlTx X.K X.mg) (M : MkP X.prog X.w X.K X.mg X.base) (hr : Room k X.A) (hx : ∀ σ, PassesAt (L2.CX X.prog X.w) X σ (E σ)) (ha : PA X (e :: es) t) (hk : 5 ≤ k := by decide) (hg : Gl X "Place" := by rfl)
    (he : starEach (e :: es) X.env = (false, eval e X.env) :: starEach es X.env := by rfl) (hpl : (backTo pos (starEach es X.env)).any (·.1) = false := by rfl) :
    PE X (.Call (.Name "Place" p) (e :: es) [] pos) (fun σ H Q => t σ H fun vs H1 => ∃ v d, vs = [v, .int d] ∧ rPlG X.K v d H1 Q (E σ)) := by
  obtain ⟨fd, F, hb⟩ := M
  refine ⟨fun pins s σ H Q I h => ?_⟩
  refine wpAny_Call_Name_kw (ld_glob I hg T.gP ?_ (by decide))
  refine PySem.W.callWith_K (h₀ := X.base) I.ok.mod.kin T.mkP.kp (thn (ha.run pos pins s σ H _ I h) fun us s1 ⟨vs, H1, I1, r, v, d, ev, a, b, c, hv, hbad, hok⟩ => ⟨I1.kIn, ?_⟩) he hpl
  subst ev
  refine make_at T.mkP F (hr.mono hk) hb (hx σ) I1 r fun x dx nx nd ne => ?_
  have s0 : Same H1 (upd (upd H1 dx (.own x)) x (.ins (CP X.K) dx [])) := Same.new _ (Same.new _ (Same.refl H1) nd) (by rw [upd_ne (Ne.symm ne)]; exact nx)
  refine ⟨x, dx, v, a, b, c, d, rfl, upd_same, hv.same s0, fun hd e H' s he => hbad hd e H' (s0.trans s) he, fun h1 => ⟨(hok h1).1, fun q H' hp hq kp => ⟨rfl, (hok h1).2 x H' (Same.made (Same.refl H1) nx nd kp) ⟨dx, q, hp, hq⟩⟩⟩⟩
theorem scPlace__call__ : FnScope ["self", "i", "n"] ["self", "i", "n"] (defScope iPlace__call__) := ⟨rfl, rfl, rfl, by decide +kernel, rfl, by decide +kernel, by decide +kernel⟩
theorem ok_PCall {fd : FuncData} (F : FnM K "Place" "__call__" "Place.__call__" iPlace__call__ fd) (T : PlTx K mg) (dVal : Dn P w K mg base 1 "value_of" ["straight", "i", "n"] (spVal K)) : FnOk P w K mg base CX0 2 (He.ma K (CP K) "__call__") fd ["self", "i", "n"] (spPCall K) := by
  refine F.ok scPlace__call__ (fun vs H Q E h => ?_) (fun cdv A outer s H vs Q E hr h => ?_)
  · obtain ⟨p, a, b, c, d, i, n, rfl, _⟩ := h
    rfl
  · obtain ⟨p, a, b, c, d, i, n, rfl, ⟨dx, q, hp, hq⟩, sa, sb, d0, d1, k⟩ := h
    refine ⟨_, PSs.nox (pss_one (ps_ret (pe_op op_fdivN (pe_dn dVal hr (pa_cons (pe_fld (pv 0) rfl) (pa_cons (pv 1) (pa_cons (pv 2) pa_nil)))) (pe_fld (pv 0) rfl)))), ?_⟩
    refine ⟨_, rfl, p, _, dx, _, _, rfl, hp, T.clP, T.nS, pf_s _ _, _, rfl, _, rfl, q, a, b, c, i, n, rfl, hq, sa, sb, ?_⟩
    exact ⟨_, rfl, p, _, dx, _, _, rfl, hp, T.clP, T.nD, pf_d _ _, _, _, rfl, rfl, ⟨by omega, by omega⟩, k⟩
theorem pe_SK {X : Cx} {K : PySem.W.Frag} {e : Expr} {es : List Expr} {t : TA} {p pos : Pos} {k : Nat} (hK : X.K = K) (T : StTx K X.mg) (M : MkS X.prog X.w K X.mg X.base) (hr : Room k X.A) (ha : PA X (e :: es) t) (hk : 2 ≤ k := by decide) (hg : Gl X "Straight" := by rfl)
    (he : starEach (e :: es) X.env = (false, eval e X.env) :: starEach es X.env := by rfl) (hpl : (backTo pos (starEach es X.env)).any (·.1) = false := by rfl) :
    PE X (.Call (.Name "Straight" p) (e :: es) [] pos) (fun σ H Q => t σ H fun vs H1 => ∃ a b c, vs = [.int a, .int b, .int c] ∧ NewS K H1 a b c Q) := by
  subst hK
  exact pe_S T M hr ha hk hg he hpl
end
end K26
set_option maxHeartbeats 4000000
namespace K26
open PySem PySem.Spec PyProof.Rows L2 Z
structure AtTx (K : PySem.W.Frag) (mg : Str → Option Value) : Prop extends StTx K mg where
  gA : mg "AtLeast" = some (.ref (CA K))
  clA : Cls K (CA K)
  mkA : Mk K (CA K) (He.ma K (CA K) "__init__")
  nAS : NoAttr K (CA K) "straight"
  gcd : mg "gcd" = some (.builtin "math.gcd")
  gR : mg "Rest" = some (.ref (CR K))
  clQ : Cls K (CR K)
  mkR : Mk K (CR K) (He.ma K (CR K) "__init__")
  nRS : NoAttr K (CR K) "straight"
  nRM : NoAttr K (CR K) "modulus"
  nRR : NoAttr K (CR K) "rest"
  topM : ∃ t, mg "TOP_MODULUS" = some (.int 4 t)
section
variable {P : Program} {w : World} {K : PySem.W.Frag} {mg : Str → Option Value} {base : Heap}
/-- what may be called as AtLeast(v) -/
def MkA (P : Program) (w : World) (K : PySem.W.Frag) (mg : Str → Option Value) (base : Heap) : Prop := ∃ fd, FnOk P w K mg base CX0 4 (He.ma K (CA K) "__init__") fd ["self", "straight"] (spAI K) ∧ Binds K fd ["self", "straight"] []
theorem scAtLeast__init__ : FnScope ["self", "straight", "told", "common"] ["self", "straight"] (defScope iAtLeast__init__) := ⟨rfl, rfl, rfl, by decide +kernel, rfl, by decide +kernel, by decide +kernel⟩
theorem mk_A {fd : FuncData} (T : AtTx K mg) (M : MkS P w K mg base) (dLike : Dn P w K mg base 3 "straight_like" ["value"] (spLike K)) (F : FnM K "AtLeast" "__init__" "AtLeast.__init__" iAtLeast__init__ fd) : MkA P w K mg base := by
  refine ⟨fd, ?_, F.bindsN fun _ _ _ _ _ _ us hl => match us, hl with | [_, _], _ => rfl⟩
  refine F.ok scAtLeast__init__ (fun vs H Q E h => ?_) (fun cdv A outer s H vs Q E hr h => ?_)
  · obtain ⟨p, dx, v, a, b, c, rfl, _⟩ := h
    rfl
  · obtain ⟨p, dx, v, a, b, c, rfl, hp, hv, hg, k⟩ := h
    refine ⟨_, PSs.nox (pss_cons (ps_set (i := 2) scAtLeast__init__.nd rfl (Or.inl rfl) (pe_dn dLike hr (pa_cons (pv 1) pa_nil)))
      (pss_cons (ps_set (i := 3) scAtLeast__init__.nd rfl (Or.inl rfl) (pe_callBfun cr_gcd (by rfl) T.gcd (pa_cons (pe_fld (pv 2) rfl) (pa_cons (pe_fld (pv 2) rfl) pa_nil))))
      (pss_one (ps_if (pt_cmpR op_eq (pv 3) pe_int (nomark _)) (pss_one (ps_fld (pv 0) (pe_S T.toStTx M hr (pa_cons pe_int (pa_cons pe_int (pa_cons (pe_ifExp (pt_cmpR op_ge (pe_fld (pv 2) rfl) pe_int (nomark _)) pe_int (pe_un un_neg pe_int)) pa_nil)))) rfl)) (pss_one (ps_fld (pv 0) (pe_S T.toStTx M hr (pa_cons (pe_op op_fdivN (pe_fld (pv 2) rfl) (pv 3)) (pa_cons (pe_op op_fdivN (pe_fld (pv 2) rfl) (pv 3)) (pa_cons (pe_op op_fdivN (pe_fld (pv 2) rfl) (pv 3)) pa_nil)))) rfl)))))), ?_⟩
    refine ⟨_, rfl, v, a, b, c, rfl, hv, fun q H1 s1 hq => ?_⟩
    obtain ⟨dq, hq⟩ := hq
    refine ⟨_, rfl, q, _, dq, _, _, rfl, hq, T.clS, T.nI, sf_i _ _ _, _, rfl, q, _, dq, _, _, rfl, hq, T.clS, T.nN, sf_n _ _ _, _, _, rfl, ?_⟩
    have go : ∀ (x y z : Int), x = a.fdiv (g2 a b) → y = b.fdiv (g2 a b) → z = lf3 a b c → ∀ (r : Addr) (H2 : Hp), Same H1 H2 → H1 r = none → StrAt K H2 r x y z → Q .non (upd H2 p (.ins (CA K) dx (af r))) := by
      intro x y z ex ey ez r H2 s2 hr1 hr2
      subst ex ey ez
      have hp2 : H2 p = some (.ins (CA K) dx []) := s2 _ _ (s1 _ _ hp)
      have npr : r ≠ p := fun z => by
        rw [z, s1 _ _ hp] at hr1
        cases hr1
      obtain ⟨dr, hr3⟩ := hr2
      refine k r _ upd_same ⟨dr, by rw [upd_ne npr]; exact hr3⟩ (fun b o nb e => ?_)
      rw [upd_ne nb]
      exact s2 _ _ (s1 _ _ e)
    refine ⟨_, rfl, rfl, _, rfl, ite2 (fun h0 => ?_) (fun h0 => ?_)⟩
    · have z0 : g2 a b = 0 := by
        have z : ((g2 a b : Nat) : Int) = 0 := V.int.inj (of_decide_eq_true h0)
        omega
      obtain ⟨rfl, rfl⟩ := g2_zero z0
      refine ⟨_, rfl, q, _, dq, _, _, rfl, hq, T.clS, T.nO, sf_one _ _ _, _, _, rfl, rfl, ?_⟩
      refine ⟨_, rfl, ite2 (fun hc => ?_) (fun hc => ?_)⟩
      · have hc1 : 0 ≤ c := of_decide_eq_true hc
        refine ⟨0, 0, 0, rfl, fun r H2 s2 hr1 hr2 => ?_⟩
        refine ⟨_, rfl, p, _, dx, _, rfl, s2 _ _ (s1 _ _ hp), T.clA, T.nAS, (by show 0 < 1000; decide), ?_⟩
        exact go 0 0 0 (by rw [Int.zero_fdiv]) (by rw [Int.zero_fdiv]) (by unfold lf3; rw [if_pos z0, if_pos hc1]) r H2 s2 hr1 hr2
      · have hc1 : ¬ 0 ≤ c := fun z => hc (decide_eq_true z)
        refine ⟨_, rfl, 0, 0, -1, rfl, fun r H2 s2 hr1 hr2 => ?_⟩
        refine ⟨_, rfl, p, _, dx, _, rfl, s2 _ _ (s1 _ _ hp), T.clA, T.nAS, (by show 0 < 1000; decide), ?_⟩
        exact go 0 0 (-1) (by rw [Int.zero_fdiv]) (by rw [Int.zero_fdiv]) (by unfold lf3; rw [if_pos z0, if_neg hc1]) r H2 s2 hr1 hr2
    · have z0 : ¬ g2 a b = 0 := fun z => h0 (decide_eq_true (by
        show V.int ((g2 a b : Nat) : Int) = V.int 0
        rw [z]
        rfl))
      have hgc : ((g2 a b : Nat) : Int) ≠ 0 ∧ ((g2 a b : Nat) : Int).natAbs < 1073741824 := ⟨by omega, by omega⟩
      refine ⟨_, rfl, q, _, dq, _, _, rfl, hq, T.clS, T.nI, sf_i _ _ _, _, rfl, _, _, rfl, rfl, hgc, ?_⟩
      refine ⟨_, rfl, q, _, dq, _, _, rfl, hq, T.clS, T.nN, sf_n _ _ _, _, rfl, _, _, rfl, rfl, hgc, ?_⟩
      refine ⟨_, rfl, q, _, dq, _, _, rfl, hq, T.clS, T.nO, sf_one _ _ _, _, rfl, _, _, rfl, rfl, hgc, ?_⟩
      refine ⟨_, _, _, rfl, fun r H2 s2 hr1 hr2 => ?_⟩
      refine ⟨_, rfl, p, _, dx, _, rfl, s2 _ _ (s1 _ _ hp), T.clA, T.nAS, (by show 0 < 1000; decide), ?_⟩
      exact go _ _ _ rfl rfl (by unfold lf3; rw [if_neg z0]; rfl) r H2 s2 hr1 hr2
theorem pe_A {X : Cx} {e : Expr} {es : List Expr} {t : TA} {p pos : Pos} {k : Nat} (T : AtTx X.K X.mg) (M : MkA X.prog X.w X.K X.mg X.base) (hr : Room k X.A) (ha : PA X (e :: es) t) (hk : 5 ≤ k := by decide) (hg : Gl X "AtLeast" := by rfl)
    (he : starEach (e :: es) X.env = (false, eval e X.env) :: starEach es X.env := by rfl) (hpl : (backTo pos (starEach es X.env)).any (·.1) = false := by rfl) :
    PE X (.Call (.Name "AtLeast" p) (e :: es) [] pos) (fun σ H Q => t σ H fun vs H1 => ∃ v a b c, vs = [v] ∧ SumV X.K H1 v a b c ∧ g2 a b < 1073741824 ∧ NewA X.K H1 (a.fdiv (g2 a b)) (b.fdiv (g2 a b)) (lf3 a b c) Q) := by
  obtain ⟨fd, F, hb⟩ := M
  refine ⟨fun pins s σ H Q I h => ?_⟩
  refine wpAny_Call_Name_kw (ld_glob I hg T.gA ?_ (by decide))
  refine PySem.W.callWith_K (h₀ := X.base) I.ok.mod.kin T.mkA.kp (thn (ha.run pos pins s σ H _ I h) fun us s1 ⟨vs, H1, I1, r, v, a, b, c, ev, hv, hg2, q⟩ => ⟨I1.kIn, ?_⟩) he hpl
  subst ev
  refine run_make T.mkA F (hr.mono hk) hb .nil pass0 I1 r fun x dx nx nd ne => ?_
  have s0 : Same H1 (upd (upd H1 dx (.own x)) x (.ins (CA X.K) dx [])) := Same.new _ (Same.new _ (Same.refl H1) nd) (by rw [upd_ne (Ne.symm ne)]; exact nx)
  exact ⟨x, dx, v, a, b, c, rfl, upd_same, hv.same s0, hg2, fun q' H' hp hq kp => ⟨rfl, q x H' (Same.made (Same.refl H1) nx nd kp) ⟨dx, q', hp, hq⟩⟩⟩
theorem pe_AK {X : Cx} {K : PySem.W.Frag} {e : Expr} {es : List Expr} {t : TA} {p pos : Pos} {k : Nat} (hK : X.K = K) (T : AtTx K X.mg) (M : MkA X.prog X.w K X.mg X.base) (hr : Room k X.A) (ha : PA X (e :: es) t) (hk : 5 ≤ k := by decide) (hg : Gl X "AtLeast" := by rfl)
    (he : starEach (e :: es) X.env = (false, eval e X.env) :: starEach es X.env := by rfl) (hpl : (backTo pos (starEach es X.env)).any (·.1) = false := by rfl) :
    PE X (.Call (.Name "AtLeast" p) (e :: es) [] pos) (fun σ H Q => t σ H fun vs H1 => ∃ v a b c, vs = [v] ∧ SumV K H1 v a b c ∧ g2 a b < 1073741824 ∧ NewA K H1 (a.fdiv (g2 a b)) (b.fdiv (g2 a b)) (lf3 a b c) Q) := by
  subst hK
  exact pe_A T M hr ha hk hg he hpl
end
section
variable {P : Program} {w : World} {K : PySem.W.Frag} {mg : Str → Option Value} {base : Heap}
/-- what may be called as Rest(v, m, r) -/
def MkR (P : Program) (w : World) (K : PySem.W.Frag) (mg : Str → Option Value) (base : Heap) : Prop := ∃ fd, FnOk P w K mg base (L2.CX P w) 4 (He.ma K (CR K) "__init__") fd ["self", "straight", "modulus", "rest"] (spRI K) ∧ Binds K fd ["self", "straight", "modulus", "rest"] []
theorem scRest__init__ : FnScope ["self", "straight", "modulus", "rest", "told"] ["self", "straight", "modulus", "rest"] (defScope iRest__init__) := ⟨rfl, rfl, rfl, by decide +kernel, rfl, by decide +kernel, by decide +kernel⟩
theorem mk_R {fd : FuncData} (T : AtTx K mg) (M : MkS P w K mg base) (MB : Mx P w K mg base "BadNumber" ["self", "what", "number"] ["what", "number"]) (dLike : Dn P w K mg base 3 "straight_like" ["value"] (spLike K)) (dIsIntFrom : Dn P w K mg base 2 "is_integer_from" ["value", "low", "high"] spIntFrom)
    (F : FnM K "Rest" "__init__" "Rest.__init__" iRest__init__ fd) : MkR P w K mg base := by
  refine ⟨fd, ?_, F.bindsN fun _ _ _ _ _ _ us hl => match us, hl with | [_, _, _, _], _ => rfl⟩
  refine F.ok scRest__init__ (fun vs H Q E h => ?_) (fun cdv A outer s H vs Q E hr h => ?_)
  · obtain ⟨p, dx, v, m, r, rfl, _⟩ := h
    rfl
  · obtain ⟨p, dx, v, m, r, rfl, hp, a, b, c, hv, b1, b2, k⟩ := h
    obtain ⟨tTOP_MODULUS, hTOP_MODULUS⟩ := T.topM
    refine ⟨_, (pss_cons (ps_if (pt_not (pt_val (pe_dn dIsIntFrom hr (pa_cons (pv 2) (pa_cons pe_int (pa_cons (pe_glob (v := .int 4) rfl hTOP_MODULUS ⟨tTOP_MODULUS, rfl⟩) pa_nil)))))) (pss_one (ps_raise rfl (takes_of rfl rfl rfl rfl) (pmk_err MB hr (pa_cons pe_str (pa_cons (pv 2) pa_nil))))) pss_nil)
      (pss_cons (ps_if (pt_not (pt_val (pe_dn dIsIntFrom hr (pa_cons (pv 3) (pa_cons pe_int (pa_cons (pe_op op_sub (pv 2) pe_int) pa_nil)))))) (pss_one (ps_raise rfl (takes_of rfl rfl rfl rfl) (pmk_err MB hr (pa_cons pe_str (pa_cons (pv 3) pa_nil))))) pss_nil)
      (pss_cons (ps_set (i := 4) scRest__init__.nd rfl (Or.inl rfl) (pe_dn dLike hr (pa_cons (pv 1) pa_nil)))
      (pss_cons (ps_fld (pv 0) (pe_S T.toStTx M hr (pa_cons (pe_op op_modN (pe_fld (pv 4) rfl) (pv 2)) (pa_cons (pe_op op_modN (pe_fld (pv 4) rfl) (pv 2)) (pa_cons pe_int pa_nil)))) rfl)
      (pss_cons (ps_fld (pv 0) (pv 2) rfl)
      (pss_one (ps_fld (pv 0) (pe_op op_modN (pe_op op_sub (pv 3) (pe_fld (pv 4) rfl)) (pv 2)) rfl))))))), ?_⟩
    refine ⟨_, rfl, m, 2, 4, rfl, ?_⟩
    by_cases hm : 2 ≤ m ∧ m ≤ 4
    · rw [decide_eq_true hm]
      refine ⟨_, rfl, iteF ?_⟩
      refine ⟨_, rfl, _, rfl, _, _, rfl, rfl, r, 0, m - 1, rfl, ?_⟩
      by_cases hq : 0 ≤ r ∧ r ≤ m - 1
      · rw [decide_eq_true hq]
        refine ⟨_, rfl, iteF ?_⟩
        have k := k hm.1 hm.2 hq.1 hq.2
        have m0 : m ≠ 0 := by omega
        refine ⟨_, rfl, v, a, b, c, rfl, hv, fun q H1 s1 hq => ?_⟩
        obtain ⟨dq, hq⟩ := hq
        refine ⟨_, rfl, q, _, dq, _, _, rfl, hq, T.clS, T.nI, sf_i _ _ _, _, rfl, _, _, rfl, rfl, m0, ?_⟩
        refine ⟨_, rfl, q, _, dq, _, _, rfl, hq, T.clS, T.nN, sf_n _ _ _, _, rfl, _, _, rfl, rfl, m0, ?_⟩
        refine ⟨_, _, _, rfl, fun u H2 s2 hu1 hu2 => ?_⟩
        have hp2 : H2 p = some (.ins (CR K) dx []) := s2 _ _ (s1 _ _ hp)
        have nqp : q ≠ p := fun z => by
          rw [z, s1 _ _ hp] at hq
          have e : ([] : List (Str × V)) = sf a b c := congrArg (fun o : Option HO => match o with | some (.ins _ _ fs) => fs | _ => []) hq
          have l := sf_i a b c
          rw [← e] at l
          cases l
        have nup : u ≠ p := fun z => by
          rw [z, s1 _ _ hp] at hu1
          cases hu1
        refine ⟨_, rfl, p, _, dx, _, rfl, hp2, T.clQ, T.nRS, (by show 0 < 1000; decide), ?_⟩
        refine ⟨_, rfl, _, rfl, p, _, dx, _, rfl, upd_same, T.clQ, T.nRM, len1 _ _, ?_⟩
        refine ⟨_, rfl, _, rfl, q, _, dq, _, _, rfl, by rw [upd_ne nqp, upd_ne nqp]; exact s2 _ _ hq, T.clS, T.nO, sf_one _ _ _, _, _, rfl, rfl, _, rfl, _, _, rfl, rfl, m0, ?_⟩
        refine ⟨_, rfl, p, _, dx, _, rfl, upd_same, T.clQ, T.nRR, len2 _ _ _ _, ?_⟩
        obtain ⟨du, hu3⟩ := hu2
        refine k u _ upd_same ⟨du, by rw [upd_ne nup, upd_ne nup, upd_ne nup]; exact hu3⟩ (fun b o nb e => ?_)
        rw [upd_ne nb, upd_ne nb, upd_ne nb]
        exact s2 _ _ (s1 _ _ e)
      · rw [decide_eq_false hq]
        refine ⟨_, rfl, iteT ?_⟩
        exact ⟨_, rfl, err_go (K := K) (x := "BadNumber") (fs := ["what", "number"]) (by show 2 ≤ 1000; decide) rfl fun e H' s he => b2 hm.1 hm.2 hq e H' s he⟩
    · rw [decide_eq_false hm]
      refine ⟨_, rfl, iteT ?_⟩
      exact ⟨_, rfl, err_go (K := K) (x := "BadNumber") (fs := ["what", "number"]) (by show 2 ≤ 1000; decide) rfl fun e H' s he => b1 hm e H' s he⟩
theorem pe_R {X : Cx} {e : Expr} {es : List Expr} {t : TA} {p pos : Pos} {k : Nat} {E : L2.St → XK} (T : AtTx X.K X.mg) (M : MkR X.prog X.w X.K X.mg X.base) (hr : Room k X.A) (hx : ∀ σ, PassesAt (L2.CX X.prog X.w) X σ (E σ)) (ha : PA X (e :: es) t) (hk : 5 ≤ k := by decide) (hg : Gl X "Rest" := by rfl)
    (he : starEach (e :: es) X.env = (false, eval e X.env) :: starEach es X.env := by rfl) (hpl : (backTo pos (starEach es X.env)).any (·.1) = false := by rfl) :
    PE X (.Call (.Name "Rest" p) (e :: es) [] pos) (fun σ H Q => t σ H fun vs H1 => ∃ v m r, vs = [v, .int m, .int r] ∧ rRst X.K v m r H1 (fun a b c => NewR X.K H1 (a.fmod m) (b.fmod m) m ((r - c).fmod m) Q) (E σ)) := by
  obtain ⟨fd, F, hb⟩ := M
  refine ⟨fun pins s σ H Q I h => ?_⟩
  refine wpAny_Call_Name_kw (ld_glob I hg T.gR ?_ (by decide))
  refine PySem.W.callWith_K (h₀ := X.base) I.ok.mod.kin T.mkR.kp (thn (ha.run pos pins s σ H _ I h) fun us s1 ⟨vs, H1, I1, rr, v, m, r, ev, a, b, c, hv, b1, b2, q⟩ => ⟨I1.kIn, ?_⟩) he hpl
  subst ev
  refine make_at T.mkR F (hr.mono hk) hb (hx σ) I1 rr fun x dx nx nd ne => ?_
  have s0 : Same H1 (upd (upd H1 dx (.own x)) x (.ins (CR X.K) dx [])) := Same.new _ (Same.new _ (Same.refl H1) nd) (by rw [upd_ne (Ne.symm ne)]; exact nx)
  exact ⟨x, dx, v, m, r, rfl, upd_same, a, b, c, hv.same s0, fun z e H' s he => b1 z e H' (s0.trans s) he, fun z1 z2 z e H' s he => b2 z1 z2 z e H' (s0.trans s) he, fun z1 z2 z3 z4 q' H' hp hq kp => ⟨rfl, q z1 z2 z3 z4 x H' (Same.made (Same.refl H1) nx nd kp) ⟨dx, q', hp, hq⟩⟩⟩
end
end K26
set_option maxHeartbeats 4000000
namespace K26
open PySem PySem.Spec PyProof.Rows L2 Z
abbrev CRd (K : PySem.W.Frag) : Addr := He.ga K "Read"
abbrev CSt (K : PySem.W.Frag) : Addr := He.ga K "Statement"
abbrev CL (K : PySem.W.Frag) : Addr := He.ga K "Loop"
abbrev CPr (K : PySem.W.Frag) : Addr := He.ga K "Program"
structure PrTx (K : PySem.W.Frag) (mg : Str → Option Value) : Prop extends AtTx K mg where
  plc : PlTx K mg
  clR : Cls K (CRd K)
  nRA : NoAttr K (CRd K) "array"
  nRP : NoAttr K (CRd K) "place"
  nRF : NoAttr K (CRd K) "factor"
  clM : Cls K (CSt K)
  nMA : NoAttr K (CSt K) "array"
  nMC : NoAttr K (CSt K) "cell"
  nMK : NoAttr K (CSt K) "constant"
  nMR : NoAttr K (CSt K) "reads"
  nMG : NoAttr K (CSt K) "conditions"
  clL : Cls K (CL K)
  nLo : NoAttr K (CL K) "low"
  nHi : NoAttr K (CL K) "high"
  nSt : NoAttr K (CL K) "statements"
  nSp : NoAttr K (CL K) "step"
  nDn : NoAttr K (CL K) "down"
  clP : Cls K (CPr K)
  nPL : NoAttr K (CPr K) "loops"
  nPA : NoAttr K (CPr K) "arrays"
  nPK : NoAttr K (CPr K) "known"
  con : ∀ q ∈ ([("TOP_PART", 12), ("TOP_ONE", 999), ("TOP_RANGE_PART", 3), ("TOP_DIVISOR", 3), ("TOP_STEP", 16), ("MOST_LOOPS", 6), ("MOST_STATEMENTS", 16), ("MOST_READS", 3), ("MOST_CONDITIONS", 3)] : List (Str × Int)), ∃ t, mg q.1 = some (.int q.2 t)
  gKW : mg "KEPT_WORDS" = some (.ref (He.ga K "KEPT_WORDS"))
  tKW : ∀ H : Hp, SqT K H (He.ga K "KEPT_WORDS") (kept.map V.str)
  gLe : ∃ t, mg "LETTERS" = some (.str lets t)
  len : mg "len" = none
  tuple : mg "tuple" = none
  all : mg "all" = none
  str : mg "str" = none
  set : mg "set" = none
  sorted : mg "sorted" = none
def spCkN (K : PySem.W.Frag) : Sp := fun vs H Q E => ∃ (w : Str) (v lo hi : Int), vs = [.str w, .int v, .int lo, .int hi] ∧ Out (ckN w v lo hi) (Rz K H E) (Q .non H)
def spCkM (K : PySem.W.Frag) : Sp := fun vs H Q E => ∃ (w : Str) (l : Addr) (m : Int) (xs : List V), vs = [.str w, .ref l, .int m] ∧ SqA K H l xs ∧ Out (ckM w xs.length m) (Rz K H E) (Q .non H)
def spIsName : Sp := fun vs H Q _ => ∃ x : Str, vs = [.str x] ∧ x.length ≤ 1000 ∧ ∀ H', Same H H' → Q (.bl (isName x)) H'
def spCkA (K : PySem.W.Frag) : Sp := fun vs H Q E => ∃ x : Str, vs = [.str x] ∧ x.length ≤ 1000 ∧ Out (ckA x) (Rz K H E) (∀ H', Same H H' → Q .non H')
def spCkS (K : PySem.W.Frag) : Sp := fun vs H Q E => ∃ (q : Addr) (a b c : Int), vs = [.ref q] ∧ StrAt K H q a b c ∧ Out (ckS a b c) (Rz K H E) (Q .non H)
def spCkP (K : PySem.W.Frag) : Sp := fun vs H Q E => ∃ (q : Addr) (a b c d : Int), vs = [.ref q] ∧ PlcAt K H q a b c d ∧ Out (ckP a b c d) (Rz K H E) (Q .non H)
def spCkR (K : PySem.W.Frag) : Sp := fun vs H Q E => ∃ (q : Addr) (a b c d : Int), vs = [.ref q] ∧ PlcAt K H q a b c d ∧ Out (ckR a b c d) (Rz K H E) (Q .non H)
/-- a place, or a sum or an int in its place -/
def PlV (K : PySem.W.Frag) (H : Hp) (v : V) (a b c d : Int) : Prop := (∃ q, v = .ref q ∧ PlcAt K H q a b c d) ∨ (SumV K H v a b c ∧ d = 1)
theorem PlV.same {K : PySem.W.Frag} {H H' : Hp} {v : V} {a b c d : Int} (h : PlV K H v a b c d) (s : Same H H') : PlV K H' v a b c d := by
  rcases h with ⟨q, e, h⟩ | ⟨h, e⟩
  · exact .inl ⟨q, e, h.same s⟩
  · exact .inr ⟨h.same s, e⟩
def spPLike (K : PySem.W.Frag) : Sp := fun vs H Q _ => ∃ (v : V) (a b c d : Int), vs = [v] ∧ PlV K H v a b c d ∧ ∀ q H', Same H H' → PlcAt K H' q a b c d → Q (.ref q) H'
section
variable {P : Program} {w : World} {K : PySem.W.Frag} {mg : Str → Option Value} {base : Heap}
theorem sc_check_number : FnScope ["what", "number", "low", "high"] ["what", "number", "low", "high"] (defScope s_check_number) := ⟨rfl, rfl, rfl, by decide +kernel, rfl, by decide +kernel, by decide +kernel⟩
theorem ok_ckN {f : Addr} {fd : FuncData} (F : FnP K "check_number" s_check_number f fd) (MB : Mx P w K mg base "BadNumber" ["self", "what", "number"] ["what", "number"]) : FnOk P w K mg base (L2.CX P w) 3 f fd ["what", "number", "low", "high"] (spCkN K) := by
  refine F.ok sc_check_number (fun vs H Q E h => ?_) (fun cdv A outer s H vs Q E hr h => ?_)
  · obtain ⟨w, v, lo, hi, rfl, _⟩ := h
    rfl
  · obtain ⟨w, v, lo, hi, rfl, k⟩ := h
    refine ⟨_, (pss_one (ps_if (pt_not (pt_chain op_le op_le (pv 2) (pv 1) (pv 3))) (pss_one (ps_raise rfl (takes_of rfl rfl rfl rfl) (pmk_err MB hr (pa_cons (pv 0) (pa_cons (pv 1) pa_nil))))) pss_nil)), ?_⟩
    have bad : ¬ (lo ≤ v ∧ v ≤ hi) → Rz K H E (.num w v) := fun z => k.1 _ (if_neg z)
    have rs : ∀ z : ¬ (lo ≤ v ∧ v ≤ hi), _ := fun z => err_go (K := K) (x := "BadNumber") (fs := ["what", "number"]) (vs := [.str w, .int v]) (H1 := H) (Q := E) (by show 2 ≤ 1000; decide) rfl fun d H' s hd => bad z d H' s hd
    refine ⟨_, rfl, _, rfl, _, _, rfl, rfl, _, rfl, ?_⟩
    by_cases h1 : lo ≤ v
    · rw [decide_eq_true h1]
      refine iteT ⟨_, rfl, _, _, rfl, rfl, _, rfl, ?_⟩
      by_cases h2 : v ≤ hi
      · rw [decide_eq_true h2]
        exact iteF (k.2 (if_pos ⟨h1, h2⟩))
      · rw [decide_eq_false h2]
        exact iteT ⟨_, rfl, _, rfl, rs fun z => h2 z.2⟩
    · rw [decide_eq_false h1]
      exact iteF ⟨_, rfl, iteT ⟨_, rfl, _, rfl, rs fun z => h1 z.1⟩⟩
end
end K26
set_option maxHeartbeats 4000000
namespace K26
open PySem PySem.Spec PyProof.Rows L2 Z
theorem if_no {b : Bool} {A B : Prop} (h : b = false) (k : B) : if b = true then A else B := by
  rw [h]
  exact k
theorem if_yes {b : Bool} {A B : Prop} (h : b = true) (k : A) : if b = true then A else B := by
  rw [h]
  exact k
theorem inv_strs (x : Str) (ys : List Str) : inV (.str x) (ys.map V.str) = decide (x ∈ ys) := by
  unfold inV
  induction ys with
  | nil => simp
  | cons y ys ih =>
    rw [List.map_cons, List.any_cons, ih]
    by_cases h : y = x
    · subst h
      simp [eqV]
    · have h2 : ¬ x = y := fun z => h z.symm
      simp [eqV, h, h2]
theorem flat_strs (ys : List Str) : (ys.map V.str).all flatV = true := by
  induction ys with
  | nil => rfl
  | cons y ys ih => simp [flatV] at ih ⊢
theorem kss {K : PySem.W.Frag} : PySem.W.kitOne K (.type "str") (.type "str") = some true := kit_ty (by decide +kernel)
theorem sz1000 : 1000 ≤ sizeLine := by show 1000 ≤ sizeLine; decide
theorem yes_of {σ : L2.St} {H : Hp} {A B : Hp → Prop} (h : A H) : tYes σ H (fun b H3 => if b = true then A H3 else B H3) := by
  show if true = true then A H else B H
  rw [if_pos rfl]
  exact h
theorem all_take (p : Nat → Bool) (l : List Nat) : (l.map p).all id = l.all p := by
  induction l with
  | nil => rfl
  | cons x l ih => simp [ih]
theorem RzK.of {K : PySem.W.Frag} {H H1 : Hp} {E : XK} {e : Er} {p : Addr} (h : RzK K p H E e) (k : Keep p H H1) : Rz K H1 E e := h.rz k
section
variable {P : Program} {w : World} {K : PySem.W.Frag} {mg : Str → Option Value} {base : Heap}
theorem sc_check_many : FnScope ["what", "things", "most"] ["what", "things", "most"] (defScope s_check_many) := ⟨rfl, rfl, rfl, by decide +kernel, rfl, by decide +kernel, by decide +kernel⟩
theorem ok_ckM {f : Addr} {fd : FuncData} (F : FnP K "check_many" s_check_many f fd) (T : PrTx K mg) (MT : Mx P w K mg base "TooMany" ["self", "what", "many", "limit"] ["what", "many", "limit"]) : FnOk P w K mg base (L2.CX P w) 3 f fd ["what", "things", "most"] (spCkM K) := by
  refine F.ok sc_check_many (fun vs H Q E h => ?_) (fun cdv A outer s H vs Q E hr h => ?_)
  · obtain ⟨w, l, m, xs, rfl, _⟩ := h
    rfl
  · obtain ⟨w, l, m, xs, rfl, hs, k⟩ := h
    refine ⟨_, (pss_one (ps_if (pt_cmpR op_gt (pe_callB call_len_seq (by rfl) T.len PySem.boot_len (pa_cons (pv 1) pa_nil)) (pv 2) (nomark _)) (pss_one (ps_raise rfl (takes_of rfl rfl rfl rfl) (pmk_err MT hr (pa_cons (pv 0) (pa_cons (pe_callB call_len_seq (by rfl) T.len PySem.boot_len (pa_cons (pv 1) pa_nil)) (pa_cons (pv 2) pa_nil)))))) pss_nil)), ?_⟩
    refine ⟨_, rfl, l, xs, rfl, hs, _, rfl, _, _, rfl, rfl, _, rfl, ?_⟩
    by_cases h1 : (xs.length : Int) ≤ m
    · rw [decide_eq_false (by omega)]
      exact iteF (k.2 (if_pos h1))
    · rw [decide_eq_true (by omega)]
      have bad := k.1 _ (if_neg h1)
      exact iteT ⟨_, rfl, _, rfl, l, xs, rfl, hs, _, rfl, err_go (K := K) (x := "TooMany") (fs := ["what", "many", "limit"]) (by show 3 ≤ 1000; decide) rfl fun d H' s hd => bad d H' s hd⟩
theorem sc_is_array_name : FnScope ["value", "letter"] ["value"] (defScope s_is_array_name) := ⟨rfl, rfl, rfl, by decide +kernel, rfl, by decide +kernel, by decide +kernel⟩
theorem ok_isName {f : Addr} {fd : FuncData} (F : FnP K "is_array_name" s_is_array_name f fd) (T : PrTx K mg) : FnOk P w K mg base CX0 1 f fd ["value"] spIsName := by
  refine F.ok sc_is_array_name (fun vs H Q E h => ?_) (fun cdv A outer s H vs Q E hr h => ?_)
  · obtain ⟨x, rfl, _⟩ := h
    rfl
  · obtain ⟨x, rfl, hx, k⟩ := h
    obtain ⟨tLe, hLe⟩ := T.gLe
    refine ⟨_, PSs.nox (pss_cons (ps_if (PW.pt (pw_or (pt_not (pt_val (pe_callB call_isi (by rfl) T.isi (by decide +kernel) (pa_cons (pv 0) (pa_cons (pe_bltn (v := .ty "str") (by rfl) T.str (by decide +kernel) rfl) pa_nil))))) (pw_or1 (pt_not (pt_chain op_le op_le pe_int (pe_callB call_len_str (by rfl) T.len PySem.boot_len (pa_cons (pv 0) pa_nil)) pe_int))))) (pss_one (ps_ret pe_bl)) pss_nil)
      (pss_one (ps_ret (pe_and (pe_callB (cr_all rfl) (by rfl) T.all (by decide +kernel) (pa_cons (pe_lc (own := [("letter", 1)]) (g := gName 1) (tt := tYes) rfl sc_is_array_name.nd (pi_str (pv 0)) (blkOk_by (N := ["value", "letter"]) (sc := defScope s_is_array_name) (by decide +kernel)) (fun _ _ _ _ _ => (pg_name (i := 1) sc_is_array_name.nd rfl (.inl rfl))) (fun _ _ _ _ _ => pts_nil) (fun _ _ _ _ _ => (pe_cmpR op_in_sign (pv 1) (pe_glob (v := .str lets) rfl hLe ⟨tLe, rfl⟩) rfl))) pa_nil)) (pe_one (pe_cmpR op_notIn_seq (pv 0) (pe_glob (v := .ref (He.ga K "KEPT_WORDS")) rfl T.gKW rfl) (by with_unfolding_all rfl))))))), ?_⟩
    have hz : x.length ≤ sizeLine := Nat.le_trans hx sz1000
    refine ⟨_, rfl, _, _, _, _, _, rfl, .ty _, .base (.str x), kss, _, rfl, ?_⟩
    refine if_no rfl ?_
    refine ⟨_, rfl, _, rfl, hz, _, _, rfl, rfl, _, rfl, ?_⟩
    have no : ¬ (1 ≤ x.length ∧ x.length ≤ 8) → Q (.bl false) H := fun z => by
      have q := k H (Same.refl H)
      unfold isName at q
      rw [decide_eq_false z] at q
      exact q
    by_cases h1 : (1 : Int) ≤ (x.length : Int)
    · rw [decide_eq_true h1]
      refine iteT ⟨_, _, rfl, rfl, _, rfl, ?_⟩
      by_cases h2 : (x.length : Int) ≤ 8
      · rw [decide_eq_true h2]
        refine if_no rfl ?_
        refine ⟨_, rfl, x, rfl, fun D hD => ?_⟩
        refine lc_str (fun i Hc => Hc D = some (.lst ((((x.cps.toList.take i).map fun c => decide (c ∈ lets.cps.toList))).map V.bl)) ∧ ∀ b o, H b = some o → Hc b = some o) ⟨upd_same, Same.new _ (Same.refl H) hD⟩ ?_ ?_
        · rintro i c Hc hc ⟨hc1, hc2⟩
          refine ⟨rfl, yes_of ?_⟩
          refine ⟨_, rfl, c, lets, rfl, rfl, ?_⟩
          have hi : i < x.cps.toList.length := by
            rw [Array.length_toList]
            exact (Array.getElem?_eq_some_iff.mp hc).1
          have ci : x.cps.toList[i]? = some c := by
            rw [Array.getElem?_toList]
            exact hc
          refine ⟨_, hc1, ?_, ?_, fun b o e => ?_⟩
          · rw [List.length_map, List.length_map, List.length_take]
            have : x.cps.toList.length = x.length := Array.length_toList
            have := sz1000
            omega
          · rw [upd_same, List.take_add_one, ci]
            simp
          · rw [upd_ne (ne_of_none e hD)]
            exact hc2 b o e
        · rintro Hc ⟨hc1, hc2⟩
          rw [show x.cps.size = x.cps.toList.length from Array.length_toList.symm, List.take_length] at hc1
          refine ⟨D, _, rfl, SqL.of hc1, ?_⟩
          have e1 : (x.cps.toList.map fun c => decide (c ∈ lets.cps.toList)).all id = x.cps.toList.all fun c => decide (c ∈ lets.cps.toList) := all_take _ _
          rw [e1]
          have q := k Hc hc2
          unfold isName at q
          rw [decide_eq_true (show 1 ≤ x.length ∧ x.length ≤ 8 by omega), Bool.true_and] at q
          cases ha : x.cps.toList.all fun c => decide (c ∈ lets.cps.toList) with
          | false =>
            rw [ha] at q
            exact ⟨_, rfl, if_no rfl q⟩
          | true =>
            rw [ha, Bool.true_and] at q
            refine ⟨_, rfl, if_yes rfl ?_⟩
            refine ⟨_, rfl, _, _, rfl, .inr (T.tKW Hc), rfl, flat_strs kept, ?_⟩
            rw [inv_strs]
            show Q (.bl (!decide (x ∈ kept))) Hc
            rw [← decide_not]
            exact q
      · rw [decide_eq_false h2]
        exact if_yes rfl (no (by omega))
    · rw [decide_eq_false h1]
      exact iteF ⟨_, rfl, if_yes rfl (no (by omega))⟩
theorem sc_check_name : FnScope ["array"] ["array"] (defScope s_check_name) := ⟨rfl, rfl, rfl, by decide +kernel, rfl, by decide +kernel, by decide +kernel⟩
theorem ok_ckA {f : Addr} {fd : FuncData} (F : FnP K "check_name" s_check_name f fd) (MN : Mx P w K mg base "BadName" ["self", "name"] ["name"]) (dIsName : Dn P w K mg base 1 "is_array_name" ["value"] spIsName) : FnOk P w K mg base (L2.CX P w) 3 f fd ["array"] (spCkA K) := by
  refine F.ok sc_check_name (fun vs H Q E h => ?_) (fun cdv A outer s H vs Q E hr h => ?_)
  · obtain ⟨x, rfl, _⟩ := h
    rfl
  · obtain ⟨x, rfl, hx, k⟩ := h
    refine ⟨_, (pss_one (ps_if (pt_not (pt_val (pe_dn dIsName hr (pa_cons (pv 0) pa_nil)))) (pss_one (ps_raise rfl (takes_of rfl rfl rfl rfl) (pmk_err MN hr (pa_cons (pv 0) pa_nil)))) pss_nil)), ?_⟩
    refine ⟨_, rfl, x, rfl, hx, fun H1 s1 => ⟨_, rfl, ?_⟩⟩
    cases e : isName x with
    | true => exact if_no rfl (k.2 (if_pos e) H1 s1)
    | false =>
      have bad := (k.1 (.name x) (if_neg (by rw [e]; simp))).same s1
      exact if_yes rfl ⟨_, rfl, err_go (K := K) (x := "BadName") (fs := ["name"]) (by show 1 ≤ 1000; decide) rfl fun d H' s hd => bad d H' s hd⟩
theorem sc_check_sum : FnScope ["straight"] ["straight"] (defScope s_check_sum) := ⟨rfl, rfl, rfl, by decide +kernel, rfl, by decide +kernel, by decide +kernel⟩
theorem ok_ckS {f : Addr} {fd : FuncData} (F : FnP K "check_sum" s_check_sum f fd) (T : PrTx K mg) (dCkN : Dx P w K mg base 3 "check_number" ["what", "number", "low", "high"] (spCkN K)) : FnOk P w K mg base (L2.CX P w) 4 f fd ["straight"] (spCkS K) := by
  refine F.ok sc_check_sum (fun vs H Q E h => ?_) (fun cdv A outer s H vs Q E hr h => ?_)
  · obtain ⟨q, a, b, c, rfl, _⟩ := h
    rfl
  · obtain ⟨q, a, b, c, rfl, ⟨dx, hq⟩, k⟩ := h
    obtain ⟨tTOP_PART, hTOP_PART⟩ := T.con ("TOP_PART", 12) (by simp)
    obtain ⟨tTOP_ONE, hTOP_ONE⟩ := T.con ("TOP_ONE", 999) (by simp)
    refine ⟨_, (pss_cons (ps_expr (pe_dx (K := K) dCkN rfl hr (fun σ => passAt (takes_of rfl rfl rfl rfl) σ) (pa_cons pe_str (pa_cons (pe_fld (pv 0) rfl) (pa_cons (pe_un un_neg (pe_glob (v := .int 12) rfl hTOP_PART ⟨tTOP_PART, rfl⟩)) (pa_cons (pe_glob (v := .int 12) rfl hTOP_PART ⟨tTOP_PART, rfl⟩) pa_nil))))))
      (pss_cons (ps_expr (pe_dx (K := K) dCkN rfl hr (fun σ => passAt (takes_of rfl rfl rfl rfl) σ) (pa_cons pe_str (pa_cons (pe_fld (pv 0) rfl) (pa_cons (pe_un un_neg (pe_glob (v := .int 12) rfl hTOP_PART ⟨tTOP_PART, rfl⟩)) (pa_cons (pe_glob (v := .int 12) rfl hTOP_PART ⟨tTOP_PART, rfl⟩) pa_nil))))))
      (pss_one (ps_expr (pe_dx (K := K) dCkN rfl hr (fun σ => passAt (takes_of rfl rfl rfl rfl) σ) (pa_cons pe_str (pa_cons (pe_fld (pv 0) rfl) (pa_cons (pe_un un_neg (pe_glob (v := .int 999) rfl hTOP_ONE ⟨tTOP_ONE, rfl⟩)) (pa_cons (pe_glob (v := .int 999) rfl hTOP_ONE ⟨tTOP_ONE, rfl⟩) pa_nil))))))))), ?_⟩
    refine ⟨_, rfl, q, _, dx, _, _, rfl, hq, T.clS, T.nI, sf_i _ _ _, _, rfl, _, _, _, _, rfl, k.or (fun _ z => z) fun k => ?_⟩
    refine ⟨_, rfl, q, _, dx, _, _, rfl, hq, T.clS, T.nN, sf_n _ _ _, _, rfl, _, _, _, _, rfl, k.or (fun _ z => z) fun k => ?_⟩
    exact ⟨_, rfl, q, _, dx, _, _, rfl, hq, T.clS, T.nO, sf_one _ _ _, _, rfl, _, _, _, _, rfl, k⟩
theorem sc_check_place : FnScope ["place"] ["place"] (defScope s_check_place) := ⟨rfl, rfl, rfl, by decide +kernel, rfl, by decide +kernel, by decide +kernel⟩
theorem ok_ckP {f : Addr} {fd : FuncData} (F : FnP K "check_place" s_check_place f fd) (T : PrTx K mg) (dCkN : Dx P w K mg base 3 "check_number" ["what", "number", "low", "high"] (spCkN K)) (dCkS : Dx P w K mg base 4 "check_sum" ["straight"] (spCkS K)) : FnOk P w K mg base (L2.CX P w) 5 f fd ["place"] (spCkP K) := by
  refine F.ok sc_check_place (fun vs H Q E h => ?_) (fun cdv A outer s H vs Q E hr h => ?_)
  · obtain ⟨q, a, b, c, d, rfl, _⟩ := h
    rfl
  · obtain ⟨q, a, b, c, d, rfl, ⟨dx, r, hq, hr1⟩, k⟩ := h
    obtain ⟨tTOP_DIVISOR, hTOP_DIVISOR⟩ := T.con ("TOP_DIVISOR", 3) (by simp)
    refine ⟨_, (pss_cons (ps_expr (pe_dx (K := K) dCkS rfl hr (fun σ => passAt (takes_of rfl rfl rfl rfl) σ) (pa_cons (pe_fld (pv 0) rfl) pa_nil)))
      (pss_one (ps_expr (pe_dx (K := K) dCkN rfl hr (fun σ => passAt (takes_of rfl rfl rfl rfl) σ) (pa_cons pe_str (pa_cons (pe_fld (pv 0) rfl) (pa_cons pe_int (pa_cons (pe_glob (v := .int 3) rfl hTOP_DIVISOR ⟨tTOP_DIVISOR, rfl⟩) pa_nil)))))))), ?_⟩
    refine ⟨_, rfl, q, _, dx, _, _, rfl, hq, T.plc.clP, T.plc.nS, pf_s _ _, r, a, b, c, rfl, hr1, k.or (fun _ z => z) fun k => ?_⟩
    exact ⟨_, rfl, q, _, dx, _, _, rfl, hq, T.plc.clP, T.plc.nD, pf_d _ _, _, _, _, _, rfl, k⟩
theorem sc_check_range_place : FnScope ["place"] ["place"] (defScope s_check_range_place) := ⟨rfl, rfl, rfl, by decide +kernel, rfl, by decide +kernel, by decide +kernel⟩
theorem ok_ckR {f : Addr} {fd : FuncData} (F : FnP K "check_range_place" s_check_range_place f fd) (T : PrTx K mg) (dCkN : Dx P w K mg base 3 "check_number" ["what", "number", "low", "high"] (spCkN K)) : FnOk P w K mg base (L2.CX P w) 4 f fd ["place"] (spCkR K) := by
  refine F.ok sc_check_range_place (fun vs H Q E h => ?_) (fun cdv A outer s H vs Q E hr h => ?_)
  · obtain ⟨q, a, b, c, d, rfl, _⟩ := h
    rfl
  · obtain ⟨q, a, b, c, d, rfl, ⟨dx, r, hp, dq, hq⟩, k⟩ := h
    obtain ⟨tTOP_ONE, hTOP_ONE⟩ := T.con ("TOP_ONE", 999) (by simp)
    obtain ⟨tTOP_RANGE_PART, hTOP_RANGE_PART⟩ := T.con ("TOP_RANGE_PART", 3) (by simp)
    obtain ⟨tTOP_DIVISOR, hTOP_DIVISOR⟩ := T.con ("TOP_DIVISOR", 3) (by simp)
    refine ⟨_, (pss_cons (ps_expr (pe_dx (K := K) dCkN rfl hr (fun σ => passAt (takes_of rfl rfl rfl rfl) σ) (pa_cons pe_str (pa_cons (pe_fld (pe_fld (pv 0) rfl) rfl) (pa_cons pe_int (pa_cons pe_int pa_nil))))))
      (pss_cons (ps_expr (pe_dx (K := K) dCkN rfl hr (fun σ => passAt (takes_of rfl rfl rfl rfl) σ) (pa_cons pe_str (pa_cons (pe_fld (pe_fld (pv 0) rfl) rfl) (pa_cons pe_int (pa_cons (pe_glob (v := .int 3) rfl hTOP_RANGE_PART ⟨tTOP_RANGE_PART, rfl⟩) pa_nil))))))
      (pss_cons (ps_expr (pe_dx (K := K) dCkN rfl hr (fun σ => passAt (takes_of rfl rfl rfl rfl) σ) (pa_cons pe_str (pa_cons (pe_fld (pe_fld (pv 0) rfl) rfl) (pa_cons (pe_un un_neg (pe_glob (v := .int 999) rfl hTOP_ONE ⟨tTOP_ONE, rfl⟩)) (pa_cons (pe_glob (v := .int 999) rfl hTOP_ONE ⟨tTOP_ONE, rfl⟩) pa_nil))))))
      (pss_one (ps_expr (pe_dx (K := K) dCkN rfl hr (fun σ => passAt (takes_of rfl rfl rfl rfl) σ) (pa_cons pe_str (pa_cons (pe_fld (pv 0) rfl) (pa_cons pe_int (pa_cons (pe_glob (v := .int 3) rfl hTOP_DIVISOR ⟨tTOP_DIVISOR, rfl⟩) pa_nil)))))))))), ?_⟩
    refine ⟨_, rfl, q, _, dx, _, _, rfl, hp, T.plc.clP, T.plc.nS, pf_s _ _, r, _, dq, _, _, rfl, hq, T.clS, T.nI, sf_i _ _ _, _, _, _, _, rfl, k.or (fun _ z => z) fun k => ?_⟩
    refine ⟨_, rfl, q, _, dx, _, _, rfl, hp, T.plc.clP, T.plc.nS, pf_s _ _, r, _, dq, _, _, rfl, hq, T.clS, T.nN, sf_n _ _ _, _, _, _, _, rfl, k.or (fun _ z => z) fun k => ?_⟩
    refine ⟨_, rfl, q, _, dx, _, _, rfl, hp, T.plc.clP, T.plc.nS, pf_s _ _, r, _, dq, _, _, rfl, hq, T.clS, T.nO, sf_one _ _ _, _, rfl, _, _, _, _, rfl, k.or (fun _ z => z) fun k => ?_⟩
    exact ⟨_, rfl, q, _, dx, _, _, rfl, hp, T.plc.clP, T.plc.nD, pf_d _ _, _, _, _, _, rfl, k⟩
theorem sc_place_like : FnScope ["value"] ["value"] (defScope s_place_like) := ⟨rfl, rfl, rfl, by decide +kernel, rfl, by decide +kernel, by decide +kernel⟩
theorem ok_pLike {f : Addr} {fd : FuncData} (F : FnP K "place_like" s_place_like f fd) (T : PrTx K mg) (MP : MkP P w K mg base) : FnOk P w K mg base CX0 6 f fd ["value"] (spPLike K) := by
  refine F.ok sc_place_like (fun vs H Q E h => ?_) (fun cdv A outer s H vs Q E hr h => ?_)
  · obtain ⟨v, a, b, c, d, rfl, _⟩ := h
    rfl
  · obtain ⟨v, a, b, c, d, rfl, h, k⟩ := h
    refine ⟨_, PSs.nox (pss_one (ps_ret (pe_ifExp (pt_val (pe_callB call_isi (by rfl) T.isi (by decide +kernel) (pa_cons (pv 0) (pa_cons (pe_glob (v := .ref (CP K)) rfl T.plc.gP rfl) pa_nil)))) (pv 0) (pe_P T.plc MP hr at_E0 (pa_cons (pv 0) (pa_cons pe_int pa_nil)))))), ?_⟩
    have g1 : gg a b 1 = 1 := Nat.gcd_one_right _
    have go : ∀ q H', Same H H' → PlcAt K H' q (a.fdiv (gg a b 1)) (b.fdiv (gg a b 1)) (c.fdiv (gg a b 1)) ((1 : Int).fdiv (gg a b 1)) → d = 1 → Q (.ref q) H' := fun q H' s hq e => by
      rw [g1] at hq
      subst e
      have e1 : ((1 : Nat) : Int) = 1 := rfl
      rw [e1, Int.fdiv_one, Int.fdiv_one, Int.fdiv_one, Int.fdiv_one] at hq
      exact k q H' s hq
    rcases h with ⟨q, rfl, hq⟩ | ⟨hv, hd⟩
    · refine ⟨_, rfl, _, _, _, _, _, rfl, .own _, .base (T.plc.pty hq), T.plc.kPP, _, rfl, iteT ?_⟩
      exact ⟨_, rfl, k q H (Same.refl H) hq⟩
    · have fin : rPlG K v 1 H (fun y H' => Q y H') E0 := ⟨a, b, c, hv, fun z => absurd z (by decide), fun _ => ⟨by rw [g1]; decide, fun q H' s hq => go q H' s hq hd⟩⟩
      rcases id hv with ⟨q, rfl, hq⟩ | ⟨rfl, _, _⟩
      · refine ⟨_, rfl, _, _, _, _, _, rfl, .own _, .base (T.ty hq), T.plc.kSP, _, rfl, iteF ?_⟩
        exact ⟨_, rfl, _, 1, rfl, fin⟩
      · refine ⟨_, rfl, _, _, _, _, _, rfl, .own _, .base (.int c), T.plc.kiP, _, rfl, iteF ?_⟩
        exact ⟨_, rfl, _, 1, rfl, fin⟩
end
end K26
set_option maxHeartbeats 4000000
namespace K26
open PySem PySem.Spec PyProof.Rows L2 Z
theorem pl {f : Str} {v : V} {fs : List (Str × V)} {n : Nat} (h : fs.length < n) : (putF f v fs).length < n + 1 := Nat.lt_of_le_of_lt (length_putF f v fs) (Nat.succ_lt_succ h)
theorem pl0 {n : Nat} : ([] : List (Str × V)).length < n + 1 := Nat.succ_pos _
theorem ins_inj {H : Hp} {p C D dx dy : Addr} {fs gs : List (Str × V)} (h1 : H p = some (.ins C dx fs)) (h2 : H p = some (.ins D dy gs)) : fs = gs := by
  rw [h1] at h2
  exact congrArg (fun o : Option HO => match o with | some (.ins _ _ fs) => fs | _ => []) h2
section
variable {K : PySem.W.Frag} {H H' : Hp} {p C dx : Addr} {fs : List (Str × V)}
theorem _root_.Z.StrAt.up {q : Addr} {a b c : Int} (h : StrAt K H q a b c) (hp : H p = some (.ins C dx fs)) (k : Keep p H H') (ni : fs.lookup ("i" : Str) = none) : StrAt K H' q a b c := by
  obtain ⟨dq, hq⟩ := h
  refine ⟨dq, k _ _ (fun z => ?_) hq⟩
  subst z
  have e := ins_inj hp hq
  rw [e, sf_i] at ni
  cases ni
theorem _root_.Z.PlcAt.up {q : Addr} {a b c d : Int} (h : PlcAt K H q a b c d) (hp : H p = some (.ins C dx fs)) (k : Keep p H H') (nl : fs.lookup ("straight" : Str) = none) (ni : fs.lookup ("i" : Str) = none) : PlcAt K H' q a b c d := by
  obtain ⟨dq, r, hq, hr⟩ := h
  refine ⟨dq, r, k _ _ (fun z => ?_) hq, hr.up hp k ni⟩
  subst z
  have e := ins_inj hp hq
  rw [e, pf_s] at nl
  cases nl
theorem _root_.Z.SumV.up {v : V} {a b c : Int} (h : SumV K H v a b c) (hp : H p = some (.ins C dx fs)) (k : Keep p H H') (ni : fs.lookup ("i" : Str) = none) : SumV K H' v a b c := by
  rcases h with ⟨q, e, hq⟩ | h
  · exact .inl ⟨q, e, hq.up hp k ni⟩
  · exact .inr h
theorem PlV.up {v : V} {a b c d : Int} (h : PlV K H v a b c d) (hp : H p = some (.ins C dx fs)) (k : Keep p H H') (nl : fs.lookup ("straight" : Str) = none) (ni : fs.lookup ("i" : Str) = none) : PlV K H' v a b c d := by
  rcases h with ⟨q, e, hq⟩ | ⟨h, e⟩
  · exact .inl ⟨q, e, hq.up hp k nl ni⟩
  · exact .inr ⟨h.up hp k ni, e⟩
theorem rd_up {l : Addr} {u : HO} (h : Rd H l u) (hp : H p = some (.ins C dx fs)) (k : Keep p H H') (nu : ∀ C d fs, u ≠ .ins C d fs) : Rd H' l u := by
  rcases h with h | ⟨o, h⟩
  · refine .inl (k _ _ (fun z => ?_) h)
    subst z
    rw [hp] at h
    exact nu _ _ _ (Option.some.inj h).symm
  · refine .inr ⟨o, k _ _ (fun z => ?_) h⟩
    subst z
    rw [hp] at h
    cases h
theorem SqT.up {l : Addr} {xs : List V} (h : SqT K H l xs) (hp : H p = some (.ins C dx fs)) (k : Keep p H H') : SqT K H' l xs := h.imp (fun r => rd_up r hp k fun _ _ _ z => by cases z) id
theorem SqL.up {l : Addr} {xs : List V} (h : SqL K H l xs) (hp : H p = some (.ins C dx fs)) (k : Keep p H H') : SqL K H' l xs := h.imp (fun r => rd_up r hp k fun _ _ _ z => by cases z) id
theorem SqA.up {l : Addr} {xs : List V} (h : SqA K H l xs) (hp : H p = some (.ins C dx fs)) (k : Keep p H H') : SqA K H' l xs := h.imp (fun r => SqL.up r hp k) fun r => SqT.up r hp k
theorem rd_same {l : Addr} {u : HO} (h : Rd H l u) (s : Same H H') : Rd H' l u := h.imp (fun h => s _ _ h) fun ⟨o, h⟩ => ⟨o, s _ _ h⟩
theorem SqT.same {l : Addr} {xs : List V} (h : SqT K H l xs) (s : Same H H') : SqT K H' l xs := h.imp (fun r => rd_same r s) id
theorem SqL.same {l : Addr} {xs : List V} (h : SqL K H l xs) (s : Same H H') : SqL K H' l xs := h.imp (fun r => rd_same r s) id
theorem SqA.same {l : Addr} {xs : List V} (h : SqA K H l xs) (s : Same H H') : SqA K H' l xs := h.imp (fun r => SqL.same r s) fun r => SqT.same r s
theorem Keep.ofSame (s : Same H H') : Keep p H H' := fun b o _ e => s b o e
theorem keep_upd {o : HO} (k : Keep p H H') : Keep p H (upd H' p o) := fun b u nb e => by
  rw [upd_ne nb]
  exact k b u nb e
theorem keep_upd1 {o : HO} : Keep p H (upd H p o) := keep_upd fun _ _ _ e => e
theorem keep_trans {H'' : Hp} (k : Keep p H H') (s : Same H' H'') : Keep p H H'' := fun b u nb e => s _ _ (k b u nb e)
theorem keep_trans2 {H'' : Hp} (k : Keep p H H') (s : Keep p H' H'') : Keep p H H'' := fun b u nb e => s _ _ nb (k b u nb e)
theorem for_any {a : Addr} {xs : List V} {g : TG} {tb : TS} {D : Ends} {σ : L2.St} (hq : SqA K H a xs) (Pv : Nat → L2.St → Hp → Prop) (h0 : Pv 0 σ H) (hl : ∀ i σ' H', Pv i σ' H' → Same H H')
    (hs : ∀ i x σ H, xs[i]? = some x → Pv i σ H → g x σ H fun σ2 H2 => tb { D with nx := Pv (i + 1), ct := Pv (i + 1), bk := D.nx } σ2 H2) (hd : ∀ σ H, Pv xs.length σ H → D.nx σ H) :
    ((∃ xs, SqL K H a xs) ∧ ∃ W : Nat → Nat → L2.St → Hp → Prop, (∃ m, W 0 m σ H) ∧ ∀ i m σ H, W i m σ H →
      ((Itl K a).stop i H ∧ D.nx σ H) ∨ ((Itl K a).go i H ∧ ∃ N : L2.St → Hp → Prop, (∀ σ' H', N σ' H' → ∃ m', m' < m ∧ W (i + 1) m' σ' H') ∧ ∀ x H', (Itl K a).yld i H x H' → g x σ H' fun σ2 H2 => tb { D with nx := N, ct := N, bk := D.nx } σ2 H2)) ∨
    ((∃ xs, SqT K H a xs) ∧ ∃ W : Nat → Nat → L2.St → Hp → Prop, (∃ m, W 0 m σ H) ∧ ∀ i m σ H, W i m σ H →
      ((Itt K a).stop i H ∧ D.nx σ H) ∨ ((Itt K a).go i H ∧ ∃ N : L2.St → Hp → Prop, (∀ σ' H', N σ' H' → ∃ m', m' < m ∧ W (i + 1) m' σ' H') ∧ ∀ x H', (Itt K a).yld i H x H' → g x σ H' fun σ2 H2 => tb { D with nx := N, ct := N, bk := D.nx } σ2 H2)) := by
  rcases hq with h | h
  · exact .inl ⟨⟨xs, h⟩, for_list Pv h0 (fun i σ' H' _ q => SqL.same h (hl i σ' H' q)) hs hd⟩
  · exact .inr ⟨⟨xs, h⟩, for_tup Pv h0 (fun i σ' H' _ q => SqT.same h (hl i σ' H' q)) hs hd⟩
end
def rdf (x : Str) (q : Addr) (f : Int) : List (Str × V) := putF "factor" (.int f) (putF "place" (.ref q) (putF "array" (.str x) []))
def stf (x : Str) (q : Addr) (k : Int) (r g : Addr) : List (Str × V) := putF "conditions" (.ref g) (putF "reads" (.ref r) (putF "constant" (.int k) (putF "cell" (.ref q) (putF "array" (.str x) []))))
theorem ne1 : ¬ (("array" : Str) = "place") := by decide +kernel
theorem ne2 : ¬ (("array" : Str) = "factor") := by decide +kernel
theorem ne3 : ¬ (("place" : Str) = "factor") := by decide +kernel
theorem ne4 : ¬ (("array" : Str) = "cell") := by decide +kernel
theorem ne5 : ¬ (("array" : Str) = "constant") := by decide +kernel
theorem ne6 : ¬ (("array" : Str) = "reads") := by decide +kernel
theorem ne7 : ¬ (("array" : Str) = "conditions") := by decide +kernel
theorem ne8 : ¬ (("cell" : Str) = "constant") := by decide +kernel
theorem ne9 : ¬ (("cell" : Str) = "reads") := by decide +kernel
theorem ne10 : ¬ (("cell" : Str) = "conditions") := by decide +kernel
theorem ne13 : ¬ (("reads" : Str) = "conditions") := by decide +kernel
theorem rdf_a (x : Str) (q : Addr) (f : Int) : (rdf x q f).lookup ("array" : Str) = some (.str x) := by
  unfold rdf
  rw [lookup_putF, if_neg ne2, lookup_putF, if_neg ne1, lookup_putF, if_pos rfl]
theorem rdf_p (x : Str) (q : Addr) (f : Int) : (rdf x q f).lookup ("place" : Str) = some (.ref q) := by
  unfold rdf
  rw [lookup_putF, if_neg ne3, lookup_putF, if_pos rfl]
theorem stf_a (x : Str) (q : Addr) (k : Int) (r g : Addr) : (stf x q k r g).lookup ("array" : Str) = some (.str x) := by
  unfold stf
  rw [lookup_putF, if_neg ne7, lookup_putF, if_neg ne6, lookup_putF, if_neg ne5, lookup_putF, if_neg ne4, lookup_putF, if_pos rfl]
theorem stf_c (x : Str) (q : Addr) (k : Int) (r g : Addr) : (stf x q k r g).lookup ("cell" : Str) = some (.ref q) := by
  unfold stf
  rw [lookup_putF, if_neg ne10, lookup_putF, if_neg ne9, lookup_putF, if_neg ne8, lookup_putF, if_pos rfl]
theorem stf_r (x : Str) (q : Addr) (k : Int) (r g : Addr) : (stf x q k r g).lookup ("reads" : Str) = some (.ref r) := by
  unfold stf
  rw [lookup_putF, if_neg ne13, lookup_putF, if_pos rfl]
theorem stf_g (x : Str) (q : Addr) (k : Int) (r g : Addr) : (stf x q k r g).lookup ("conditions" : Str) = some (.ref g) := by
  unfold stf
  rw [lookup_putF, if_pos rfl]
section
variable (K : PySem.W.Frag)
def RdAt (H : Hp) (p : Addr) (x : Str) (a b c d f : Int) : Prop := ∃ dx q, H p = some (.ins (CRd K) dx (rdf x q f)) ∧ PlcAt K H q a b c d
/-- a condition: its sum -/
def CndAt (H : Hp) (v : V) (t : Int × Int × Int) : Prop := ∃ r C dx fs q, v = .ref r ∧ H r = some (.ins C dx fs) ∧ Cls K C ∧ NoAttr K C "straight" ∧ fs.lookup ("straight" : Str) = some (.ref q) ∧ StrAt K H q t.1 t.2.1 t.2.2
def Cnds (H : Hp) (cs : List V) (cc : List (Int × Int × Int)) : Prop := cs.length = cc.length ∧ ∀ (i : Nat) (v : V) (t : Int × Int × Int), cs[i]? = some v → cc[i]? = some t → CndAt K H v t
def StmAt (H : Hp) (p : Addr) (x : Str) (a b c k : Int) (rs cs : List V) : Prop := ∃ dx q r g, H p = some (.ins (CSt K) dx (stf x q k r g)) ∧ StrAt K H q a b c ∧ SqT K H r rs ∧ SqT K H g cs
def spRdI : Sp := fun vs H Q E => ∃ (p dx : Addr) (x : Str) (v : V) (f a b c d : Int), vs = [.ref p, .str x, v, .int f] ∧ H p = some (.ins (CRd K) dx []) ∧ x.length ≤ 1000 ∧ PlV K H v a b c d ∧
  Out (ckRead x f a b c d) (RzK K p H E) (∀ q H', H' p = some (.ins (CRd K) dx (rdf x q f)) → PlcAt K H' q a b c d → Keep p H H' → Q .non H')
def spStI : Sp := fun vs H Q E => ∃ (p dx : Addr) (x : Str) (v : V) (k : Int) (lr lc : Addr) (rs cs : List V) (cc : List (Int × Int × Int)) (a b c : Int), vs = [.ref p, .str x, v, .int k, .ref lr, .ref lc] ∧ H p = some (.ins (CSt K) dx []) ∧ x.length ≤ 1000 ∧ SumV K H v a b c ∧
  SqA K H lr rs ∧ SqA K H lc cs ∧ Cnds K H cs cc ∧ Out (ckStm rs.length cs.length x cc a b c k) (RzK K p H E) (∀ q r g H', H' p = some (.ins (CSt K) dx (stf x q k r g)) → StrAt K H' q a b c → SqT K H' r rs → SqT K H' g cs → Keep p H H' → Q .non H')
end
theorem CndAt.same {K : PySem.W.Frag} {H H' : Hp} {v : V} {t : Int × Int × Int} (h : CndAt K H v t) (s : Same H H') : CndAt K H' v t := by
  obtain ⟨r, C, dx, fs, q, e, h1, h2, h3, h4, h5⟩ := h
  exact ⟨r, C, dx, fs, q, e, s _ _ h1, h2, h3, h4, h5.same s⟩
theorem Cnds.same {K : PySem.W.Frag} {H H' : Hp} {cs : List V} {cc : List (Int × Int × Int)} (h : Cnds K H cs cc) (s : Same H H') : Cnds K H' cs cc := ⟨h.1, fun i v t h1 h2 => (h.2 i v t h1 h2).same s⟩
theorem RdAt.same {K : PySem.W.Frag} {H H' : Hp} {p : Addr} {x : Str} {a b c d f : Int} (h : RdAt K H p x a b c d f) (s : Same H H') : RdAt K H' p x a b c d f := by
  obtain ⟨dx, q, h, h2⟩ := h
  exact ⟨dx, q, s _ _ h, h2.same s⟩
theorem StmAt.same {K : PySem.W.Frag} {H H' : Hp} {p : Addr} {x : Str} {a b c k : Int} {rs cs : List V} (h : StmAt K H p x a b c k rs cs) (s : Same H H') : StmAt K H' p x a b c k rs cs := by
  obtain ⟨dx, q, r, g, h, h2, h3, h4⟩ := h
  exact ⟨dx, q, r, g, s _ _ h, h2.same s, SqT.same h3 s, SqT.same h4 s⟩
theorem norm {N : L2.St → Hp → Prop} {σ σ' : L2.St} {H : Hp} (e : σ = σ') (h : N σ' H) : N σ H := e ▸ h
theorem normG {i : Nat} {v : V} {σ σ' : L2.St} {H : Hp} {N : L2.St → Hp → Prop} (e : σ.set i (some v) = σ') (h : N σ' H) : gName i v σ H N := by
  subst e
  exact h
section
variable {P : Program} {w : World} {K : PySem.W.Frag} {mg : Str → Option Value} {base : Heap}
theorem scRead__init__ : FnScope ["self", "array", "place", "factor"] ["self", "array", "place", "factor"] (defScope iRead__init__) := ⟨rfl, rfl, rfl, by decide +kernel, rfl, by decide +kernel, by decide +kernel⟩
theorem ok_RdI {fd : FuncData} {kws : List (Str × V)} (F : FunD K "__init__" "Read.__init__" (defArgs iRead__init__) (defBody iRead__init__) (defScope iRead__init__) [] kws (He.ma K (CRd K) "__init__") fd) (T : PrTx K mg) (MB : Mx P w K mg base "BadNumber" ["self", "what", "number"] ["what", "number"])
    (dCkA : Dx P w K mg base 3 "check_name" ["array"] (spCkA K)) (dCkN : Dx P w K mg base 3 "check_number" ["what", "number", "low", "high"] (spCkN K)) (dPLike : Dn P w K mg base 6 "place_like" ["value"] (spPLike K)) (dCkP : Dx P w K mg base 5 "check_place" ["place"] (spCkP K)) :
    FnOk P w K mg base (L2.CX P w) 7 (He.ma K (CRd K) "__init__") fd ["self", "array", "place", "factor"] (spRdI K) := by
  refine F.ok scRead__init__ (fun vs H Q E h => ?_) (fun cdv A outer s H vs Q E hr h => ?_)
  · obtain ⟨p, dx, x, v, f, a, b, c, d, rfl, _⟩ := h
    rfl
  · obtain ⟨p, dx, x, v, f, a, b, c, d, rfl, hp, hx, hv, k⟩ := h
    obtain ⟨tTOP_ONE, hTOP_ONE⟩ := T.con ("TOP_ONE", 999) (by simp)
    refine ⟨_, (pss_cons (ps_expr (pe_dx (K := K) dCkA rfl hr (fun σ => passAt (takes_of rfl rfl rfl rfl) σ) (pa_cons (pv 1) pa_nil)))
      (pss_cons (ps_if (pt_cmpR op_eq (pv 3) pe_int (nomark _)) (pss_one (ps_raise rfl (takes_of rfl rfl rfl rfl) (pmk_err MB hr (pa_cons pe_str (pa_cons (pv 3) pa_nil))))) pss_nil)
      (pss_cons (ps_expr (pe_dx (K := K) dCkN rfl hr (fun σ => passAt (takes_of rfl rfl rfl rfl) σ) (pa_cons pe_str (pa_cons (pv 3) (pa_cons (pe_un un_neg (pe_glob (v := .int 999) rfl hTOP_ONE ⟨tTOP_ONE, rfl⟩)) (pa_cons (pe_glob (v := .int 999) rfl hTOP_ONE ⟨tTOP_ONE, rfl⟩) pa_nil))))))
      (pss_cons (ps_fld (pv 0) (pv 1) rfl)
      (pss_cons (ps_fld (pv 0) (pe_dn dPLike hr (pa_cons (pv 2) pa_nil)) rfl)
      (pss_cons (ps_fld (pv 0) (pv 3) rfl)
      (pss_one (ps_expr (pe_dx (K := K) dCkP rfl hr (fun σ => passAt (takes_of rfl rfl rfl rfl) σ) (pa_cons (pe_fld (pv 0) rfl) pa_nil)))))))))), ?_⟩
    refine ⟨_, rfl, x, rfl, hx, k.or (fun e z => z.rz (Keep.ofSame (Same.refl H))) fun k H1 s1 => ?_⟩
    have k1 : ∀ e, RzK K p H E e → Rz K H1 E e := fun e z => z.rz (Keep.ofSame s1)
    refine ⟨_, rfl, rfl, _, rfl, ?_⟩
    by_cases hf : f = 0
    · subst hf
      have bad := k1 _ (k.1 (.num "factor" 0) rfl)
      exact if_yes (decide_eq_true rfl) ⟨_, rfl, err_go (K := K) (x := "BadNumber") (fs := ["what", "number"]) (by show 2 ≤ 1000; decide) rfl fun d H' s hd => bad d H' s hd⟩
    rw [if_neg hf] at k
    refine if_no (decide_eq_false fun z => hf (V.int.inj z)) ?_
    refine ⟨_, rfl, _, rfl, _, _, _, _, rfl, Out.or (o1 := ckN "factor" f (-999) 999) k k1 fun k => ?_⟩
    refine ⟨_, rfl, _, rfl, p, _, dx, _, rfl, s1 _ _ hp, T.clR, T.nRA, pl0, ?_⟩
    have n1 : (putF "array" (V.str x) []).lookup ("straight" : Str) = none ∧ (putF "array" (V.str x) []).lookup ("i" : Str) = none := by
      rw [lookup_putF, if_neg (by decide +kernel), lookup_putF, if_neg (by decide +kernel)]
      exact ⟨rfl, rfl⟩
    have hv1 := (hv.same s1).up (s1 _ _ hp) (keep_upd1 (o := .ins (CRd K) dx (putF "array" (.str x) []))) rfl rfl
    refine ⟨_, rfl, v, a, b, c, d, rfl, hv1, fun q H2 s2 hq => ?_⟩
    have hp2 := s2 _ _ (upd_same (H := H1) (a := p))
    have kp2 : Keep p H H2 := keep_trans (keep_upd (Keep.ofSame s1)) s2
    refine ⟨_, rfl, p, _, dx, _, rfl, hp2, T.clR, T.nRP, pl pl0, ?_⟩
    have hq1 := hq.up hp2 (keep_upd1 (o := .ins (CRd K) dx (putF "place" (.ref q) (putF "array" (.str x) [])))) n1.1 n1.2
    refine ⟨_, rfl, _, rfl, p, _, dx, _, rfl, upd_same, T.clR, T.nRF, pl (pl pl0), ?_⟩
    have n2 : (putF "place" (V.ref q) (putF "array" (V.str x) [])).lookup ("straight" : Str) = none ∧ (putF "place" (V.ref q) (putF "array" (V.str x) [])).lookup ("i" : Str) = none := by
      rw [lookup_putF, if_neg (by decide +kernel), lookup_putF (f := "place"), if_neg (by decide +kernel)]
      exact n1
    have hq2 := hq1.up upd_same (keep_upd1 (o := .ins (CRd K) dx (rdf x q f))) n2.1 n2.2
    have kp3 : Keep p H (upd (upd H2 p (.ins (CRd K) dx (putF "place" (.ref q) (putF "array" (.str x) [])))) p (.ins (CRd K) dx (rdf x q f))) := keep_upd (keep_upd kp2)
    refine ⟨_, rfl, p, _, dx, _, _, rfl, upd_same, T.clR, T.nRP, rdf_p x q f, q, a, b, c, d, rfl, hq2, Out.end_ k (fun e z => z.rz kp3) fun k => ?_⟩
    exact k q _ upd_same hq2 kp3
end
end K26
set_option maxHeartbeats 4000000
namespace K26
open PySem PySem.Spec PyProof.Rows L2 Z
section
variable {P : Program} {w : World} {K : PySem.W.Frag} {mg : Str → Option Value} {base : Heap}
theorem nlk {f g : Str} {v : V} {fs : List (Str × V)} (h : ¬ g = f) (k : fs.lookup g = none) : (putF f v fs).lookup g = none := by
  rw [lookup_putF, if_neg h]
  exact k
theorem cnd_at {K : PySem.W.Frag} {H : Hp} {cs : List V} {cc : List (Int × Int × Int)} (h : Cnds K H cs cc) {i : Nat} {v : V} (hv : cs[i]? = some v) : ∃ t, cc[i]? = some t ∧ CndAt K H v t ∧ cc.drop i = t :: cc.drop (i + 1) := by
  have hi : i < cs.length := by
    rw [List.getElem?_eq_some_iff] at hv
    exact hv.1
  have hj : i < cc.length := by rw [← h.1]; exact hi
  refine ⟨cc[i], List.getElem?_eq_getElem hj, h.2 i v _ hv (List.getElem?_eq_getElem hj), ?_⟩
  exact List.drop_eq_getElem_cons hj
theorem scStatement__init__ : FnScope ["self", "array", "cell", "constant", "reads", "conditions", "condition"] ["self", "array", "cell", "constant", "reads", "conditions"] (defScope iStatement__init__) := ⟨rfl, rfl, rfl, by decide +kernel, rfl, by decide +kernel, by decide +kernel⟩
theorem ok_StI {fd : FuncData} {kws : List (Str × V)} (F : FunD K "__init__" "Statement.__init__" (defArgs iStatement__init__) (defBody iStatement__init__) (defScope iStatement__init__) [] kws (He.ma K (CSt K) "__init__") fd) (T : PrTx K mg)
    (dCkM : Dx P w K mg base 3 "check_many" ["what", "things", "most"] (spCkM K)) (dCkA : Dx P w K mg base 3 "check_name" ["array"] (spCkA K)) (dCkN : Dx P w K mg base 3 "check_number" ["what", "number", "low", "high"] (spCkN K))
    (dCkS : Dx P w K mg base 4 "check_sum" ["straight"] (spCkS K)) (dLike : Dn P w K mg base 3 "straight_like" ["value"] (spLike K)) :
    FnOk P w K mg base (L2.CX P w) 5 (He.ma K (CSt K) "__init__") fd ["self", "array", "cell", "constant", "reads", "conditions"] (spStI K) := by
  refine F.ok scStatement__init__ (fun vs H Q E h => ?_) (fun cdv A outer s H vs Q E hr h => ?_)
  · obtain ⟨p, dx, x, v, k, lr, lc, rs, cs, cc, a, b, c, rfl, _⟩ := h
    rfl
  · obtain ⟨p, dx, x, v, k, lr, lc, rs, cs, cc, a, b, c, rfl, hp, hx, hv, hlr, hlc, hcc, kk⟩ := h
    obtain ⟨tTOP_ONE, hTOP_ONE⟩ := T.con ("TOP_ONE", 999) (by simp)
    obtain ⟨tMOST_READS, hMOST_READS⟩ := T.con ("MOST_READS", 3) (by simp)
    obtain ⟨tMOST_CONDITIONS, hMOST_CONDITIONS⟩ := T.con ("MOST_CONDITIONS", 3) (by simp)
    refine ⟨_, (pss_cons (ps_expr (pe_dx (K := K) dCkM rfl hr (fun σ => passAt (takes_of rfl rfl rfl rfl) σ) (pa_cons pe_str (pa_cons (pv 4) (pa_cons (pe_glob (v := .int 3) rfl hMOST_READS ⟨tMOST_READS, rfl⟩) pa_nil)))))
      (pss_cons (ps_expr (pe_dx (K := K) dCkM rfl hr (fun σ => passAt (takes_of rfl rfl rfl rfl) σ) (pa_cons pe_str (pa_cons (pv 5) (pa_cons (pe_glob (v := .int 3) rfl hMOST_CONDITIONS ⟨tMOST_CONDITIONS, rfl⟩) pa_nil)))))
      (pss_cons (ps_expr (pe_dx (K := K) dCkA rfl hr (fun σ => passAt (takes_of rfl rfl rfl rfl) σ) (pa_cons (pv 1) pa_nil)))
      (pss_cons (ps_for (passes_of rfl) rfl (pi_any (pv 5)) (pg_name (i := 6) scStatement__init__.nd rfl (.inl rfl)) (pss_one (ps_expr (pe_dx (K := K) dCkS rfl hr (fun σ => passAt (takes_of rfl rfl rfl rfl) σ) (pa_cons (pe_fld (pv 6) rfl) pa_nil)))))
      (pss_cons (ps_fld (pv 0) (pv 1) rfl)
      (pss_cons (ps_fld (pv 0) (pe_dn dLike hr (pa_cons (pv 2) pa_nil)) rfl)
      (pss_cons (ps_expr (pe_dx (K := K) dCkS rfl hr (fun σ => passAt (takes_of rfl rfl rfl rfl) σ) (pa_cons (pe_fld (pv 0) rfl) pa_nil)))
      (pss_cons (ps_expr (pe_dx (K := K) dCkN rfl hr (fun σ => passAt (takes_of rfl rfl rfl rfl) σ) (pa_cons pe_str (pa_cons (pv 3) (pa_cons (pe_un un_neg (pe_glob (v := .int 999) rfl hTOP_ONE ⟨tTOP_ONE, rfl⟩)) (pa_cons (pe_glob (v := .int 999) rfl hTOP_ONE ⟨tTOP_ONE, rfl⟩) pa_nil))))))
      (pss_cons (ps_fld (pv 0) (pv 3) rfl)
      (pss_cons (ps_fld (pv 0) (pe_callTy call_tuple_of (by rfl) T.tuple (by decide +kernel) (pa_cons (pv 4) pa_nil)) rfl)
      (pss_one (ps_fld (pv 0) (pe_callTy call_tuple_of (by rfl) T.tuple (by decide +kernel) (pa_cons (pv 5) pa_nil)) rfl)))))))))))), ?_⟩
    have k0 : ∀ e, RzK K p H E e → Rz K H E e := fun e z => z.rz (Keep.ofSame (Same.refl H))
    refine ⟨_, rfl, _, _, _, _, rfl, hlr, kk.or k0 fun kk => ?_⟩
    refine ⟨_, rfl, _, _, _, _, rfl, hlc, kk.or k0 fun kk => ?_⟩
    refine ⟨_, rfl, x, rfl, hx, kk.or k0 fun kk H1 s1 => ?_⟩
    have k1 : ∀ e, RzK K p H E e → Rz K H1 E e := fun e z => z.rz (Keep.ofSame s1)
    have hcc1 := hcc.same s1
    refine ⟨_, rfl, lc, rfl, ?_⟩
    refine for_any (xs := cs) (SqA.same hlc s1) (fun i σ H' => ∃ v6 : Option V, σ = [some (.ref p), some (.str x), some v, some (.int k), some (.ref lr), some (.ref lc), v6] ∧ H' = H1 ∧
      Out ((ckCs (cc.drop i)).or ((ckS a b c).or (ckN "constant" k (-999) 999))) (RzK K p H E) (∀ (q r g : Addr) (H' : Hp), H' p = some (.ins (CSt K) dx (stf x q k r g)) → StrAt K H' q a b c → SqT K H' r rs → SqT K H' g cs → Keep p H H' → Q .non H')) ⟨_, rfl, rfl, kk⟩ (fun i σ' H' ⟨_, _, e, _⟩ => e ▸ Same.refl H1) ?_ ?_
    · rintro i y σ H' hy ⟨v6, rfl, rfl, kk⟩
      obtain ⟨t, ht, ⟨r, C, dy, fs, q, rfl, hr1, cl, na, lk, hq⟩, hd⟩ := cnd_at hcc1 hy
      rw [hd] at kk
      have e : (ckCs (t :: cc.drop (i + 1))).or ((ckS a b c).or (ckN "constant" k (-999) 999)) = (ckS t.1 t.2.1 t.2.2).or ((ckCs (cc.drop (i + 1))).or ((ckS a b c).or (ckN "constant" k (-999) 999))) := by
        show ((ckS t.1 t.2.1 t.2.2).or (ckCs (cc.drop (i + 1)))).or _ = _
        rw [Option.or_assoc]
      rw [e] at kk
      refine normG (σ' := [some (.ref p), some (.str x), some v, some (.int k), some (.ref lr), some (.ref lc), some (.ref r)]) rfl ?_
      exact ⟨_, rfl, r, C, dy, _, _, rfl, hr1, cl, na, lk, q, _, _, _, rfl, hq, kk.or k1 fun kk => ⟨_, rfl, rfl, kk⟩⟩
    rintro σ H' ⟨v6, rfl, rfl, kk⟩
    have e0 : cc.drop cs.length = [] := by rw [hcc.1, List.drop_length]
    rw [e0] at kk
    rw [show (ckCs ([] : List (Int × Int × Int))).or ((ckS a b c).or (ckN "constant" k (-999) 999)) = (ckS a b c).or (ckN "constant" k (-999) 999) from rfl] at kk
    refine ⟨_, rfl, _, rfl, p, _, dx, _, rfl, s1 _ _ hp, T.clM, T.nMA, pl0, ?_⟩
    have n1 : (putF "array" (V.str x) []).lookup ("i" : Str) = none := nlk (by decide +kernel) rfl
    have hv1 := (hv.same s1).up (s1 _ _ hp) (keep_upd1 (o := .ins (CSt K) dx (putF "array" (.str x) []))) rfl
    have kp1 : Keep p H (upd H' p (.ins (CSt K) dx (putF "array" (.str x) []))) := keep_upd (Keep.ofSame s1)
    refine ⟨_, rfl, v, a, b, c, rfl, hv1, fun q H2 s2 hq => ?_⟩
    have hp2 := s2 _ _ (upd_same (H := H') (a := p))
    have kp2 : Keep p H H2 := keep_trans kp1 s2
    refine ⟨_, rfl, p, _, dx, _, rfl, hp2, T.clM, T.nMC, pl pl0, ?_⟩
    have hq1 := hq.up hp2 (keep_upd1 (o := .ins (CSt K) dx (putF "cell" (.ref q) (putF "array" (.str x) [])))) n1
    have kp3 : Keep p H (upd H2 p (.ins (CSt K) dx (putF "cell" (.ref q) (putF "array" (.str x) [])))) := keep_upd kp2
    have lkc : (putF "cell" (V.ref q) (putF "array" (V.str x) [])).lookup ("cell" : Str) = some (.ref q) := by rw [lookup_putF, if_pos rfl]
    refine ⟨_, rfl, p, _, dx, _, _, rfl, upd_same, T.clM, T.nMC, lkc, q, a, b, c, rfl, hq1, kk.or (fun e z => z.rz kp3) fun kk => ?_⟩
    refine ⟨_, rfl, _, rfl, _, _, _, _, rfl, Out.end_ kk (fun e z => z.rz kp3) fun kk => ?_⟩
    refine ⟨_, rfl, _, rfl, p, _, dx, _, rfl, upd_same, T.clM, T.nMK, pl (pl pl0), ?_⟩
    have n2 : (putF "cell" (V.ref q) (putF "array" (V.str x) [])).lookup ("i" : Str) = none := nlk (by decide +kernel) n1
    have hq2 := hq1.up upd_same (keep_upd1 (o := .ins (CSt K) dx (putF "constant" (.int k) (putF "cell" (.ref q) (putF "array" (.str x) []))))) n2
    have n3 : (putF "constant" (V.int k) (putF "cell" (V.ref q) (putF "array" (V.str x) []))).lookup ("i" : Str) = none := nlk (by decide +kernel) n2
    obtain ⟨H3, eH3⟩ : ∃ L, L = upd (upd H2 p (.ins (CSt K) dx (putF "cell" (.ref q) (putF "array" (.str x) [])))) p (.ins (CSt K) dx (putF "constant" (.int k) (putF "cell" (.ref q) (putF "array" (.str x) [])))) := ⟨_, rfl⟩
    have kp4 : Keep p H H3 := by rw [eH3]; exact keep_upd kp3
    have hp3 : H3 p = some (.ins (CSt K) dx (putF "constant" (.int k) (putF "cell" (.ref q) (putF "array" (.str x) [])))) := by rw [eH3]; exact upd_same
    rw [← eH3] at hq2 ⊢
    have tail : ∀ (r : Addr) (H4 : Hp), Same H3 H4 → SqT K H4 r rs → H4 p = some (.ins (CSt K) dx (putF "constant" (.int k) (putF "cell" (.ref q) (putF "array" (.str x) [])))) ∧
        SqA K (upd H4 p (.ins (CSt K) dx (putF "reads" (.ref r) (putF "constant" (.int k) (putF "cell" (.ref q) (putF "array" (.str x) [])))))) lc cs ∧
        ∀ (g : Addr) (H6 : Hp), Same (upd H4 p (.ins (CSt K) dx (putF "reads" (.ref r) (putF "constant" (.int k) (putF "cell" (.ref q) (putF "array" (.str x) [])))))) H6 → SqT K H6 g cs →
          H6 p = some (.ins (CSt K) dx (putF "reads" (.ref r) (putF "constant" (.int k) (putF "cell" (.ref q) (putF "array" (.str x) []))))) ∧ Q .non (upd H6 p (.ins (CSt K) dx (stf x q k r g))) := by
      intro r H4 s4 hr4
      have hp4 := s4 _ _ hp3
      have k45 : Keep p H4 (upd H4 p (.ins (CSt K) dx (putF "reads" (.ref r) (putF "constant" (.int k) (putF "cell" (.ref q) (putF "array" (.str x) [])))))) := keep_upd1
      have kp5 := keep_trans2 (keep_trans kp4 s4) k45
      refine ⟨hp4, SqA.up hlc hp kp5, fun g H6 s6 hg6 => ?_⟩
      have hp6 := s6 _ _ upd_same
      have k67 : Keep p H6 (upd H6 p (.ins (CSt K) dx (stf x q k r g))) := keep_upd1
      have hr5 := SqT.up hr4 hp4 k45
      have hq5 := (hq2.same s4).up hp4 k45 n3
      exact ⟨hp6, kk q r g _ upd_same ((hq5.same s6).up hp6 k67 (nlk (by decide +kernel) n3)) (SqT.up (SqT.same hr5 s6) hp6 k67) (SqT.up hg6 hp6 k67) (keep_trans2 (keep_trans kp5 s6) k67)⟩
    rcases SqA.up hlr hp kp4 with hL | hL
    · refine ⟨_, rfl, lr, rs, rfl, .inl ⟨hL, fun r hr => ?_⟩⟩
      obtain ⟨t1, t2, t3⟩ := tail r _ (Same.new (.tup rs) (Same.refl H3) hr) (SqT.of upd_same)
      refine ⟨_, rfl, p, _, dx, _, rfl, t1, T.clM, T.nMR, pl (pl (pl pl0)), ?_⟩
      rcases t2 with hC | hC
      · refine ⟨_, rfl, lc, cs, rfl, .inl ⟨hC, fun g hg => ?_⟩⟩
        obtain ⟨t4, t5⟩ := t3 g _ (Same.new (.tup cs) (Same.refl _) hg) (SqT.of upd_same)
        exact ⟨_, rfl, p, _, dx, _, rfl, t4, T.clM, T.nMG, pl (pl (pl (pl pl0))), t5⟩
      · obtain ⟨t4, t5⟩ := t3 lc _ (Same.refl _) hC
        exact ⟨_, rfl, lc, cs, rfl, .inr ⟨hC, _, rfl, p, _, dx, _, rfl, t4, T.clM, T.nMG, pl (pl (pl (pl pl0))), t5⟩⟩
    · obtain ⟨t1, t2, t3⟩ := tail lr _ (Same.refl H3) hL
      refine ⟨_, rfl, lr, rs, rfl, .inr ⟨hL, ?_⟩⟩
      refine ⟨_, rfl, p, _, dx, _, rfl, t1, T.clM, T.nMR, pl (pl (pl pl0)), ?_⟩
      rcases t2 with hC | hC
      · refine ⟨_, rfl, lc, cs, rfl, .inl ⟨hC, fun g hg => ?_⟩⟩
        obtain ⟨t4, t5⟩ := t3 g _ (Same.new (.tup cs) (Same.refl _) hg) (SqT.of upd_same)
        exact ⟨_, rfl, p, _, dx, _, rfl, t4, T.clM, T.nMG, pl (pl (pl (pl pl0))), t5⟩
      · obtain ⟨t4, t5⟩ := t3 lc _ (Same.refl _) hC
        exact ⟨_, rfl, lc, cs, rfl, .inr ⟨hC, _, rfl, p, _, dx, _, rfl, t4, T.clM, T.nMG, pl (pl (pl (pl pl0))), t5⟩⟩
end
def lpf (lo hi st : Addr) (S : Int) (dn : Bool) : List (Str × V) := putF "down" (.bl dn) (putF "step" (.int S) (putF "statements" (.ref st) (putF "high" (.ref hi) (putF "low" (.ref lo) []))))
theorem n_lh : ¬ (("low" : Str) = "high") := by decide +kernel
theorem n_lt : ¬ (("low" : Str) = "statements") := by decide +kernel
theorem n_ls : ¬ (("low" : Str) = "step") := by decide +kernel
theorem n_ld : ¬ (("low" : Str) = "down") := by decide +kernel
theorem n_ht : ¬ (("high" : Str) = "statements") := by decide +kernel
theorem n_hs : ¬ (("high" : Str) = "step") := by decide +kernel
theorem n_hd : ¬ (("high" : Str) = "down") := by decide +kernel
theorem n_ts : ¬ (("statements" : Str) = "step") := by decide +kernel
theorem n_td : ¬ (("statements" : Str) = "down") := by decide +kernel
theorem n_sd : ¬ (("step" : Str) = "down") := by decide +kernel
theorem lp_lo (lo hi st : Addr) (S : Int) (dn : Bool) : (lpf lo hi st S dn).lookup ("low" : Str) = some (.ref lo) := by
  unfold lpf
  rw [lookup_putF, if_neg n_ld, lookup_putF, if_neg n_ls, lookup_putF, if_neg n_lt, lookup_putF, if_neg n_lh, lookup_putF, if_pos rfl]
theorem lp_hi (lo hi st : Addr) (S : Int) (dn : Bool) : (lpf lo hi st S dn).lookup ("high" : Str) = some (.ref hi) := by
  unfold lpf
  rw [lookup_putF, if_neg n_hd, lookup_putF, if_neg n_hs, lookup_putF, if_neg n_ht, lookup_putF, if_pos rfl]
theorem lp_tt (lo hi st : Addr) (S : Int) (dn : Bool) : (lpf lo hi st S dn).lookup ("statements" : Str) = some (.ref st) := by
  unfold lpf
  rw [lookup_putF, if_neg n_td, lookup_putF, if_neg n_ts, lookup_putF, if_pos rfl]
theorem lp_st (lo hi st : Addr) (S : Int) (dn : Bool) : (lpf lo hi st S dn).lookup ("step" : Str) = some (.int S) := by
  unfold lpf
  rw [lookup_putF, if_neg n_sd, lookup_putF, if_pos rfl]
theorem lp_dn (lo hi st : Addr) (S : Int) (dn : Bool) : (lpf lo hi st S dn).lookup ("down" : Str) = some (.bl dn) := by
  unfold lpf
  rw [lookup_putF, if_pos rfl]
/-- a place's four numbers -/
abbrev P4 : Type := Int × Int × Int × Int
section
variable (K : PySem.W.Frag)
def Pl4 (H : Hp) (q : Addr) (t : P4) : Prop := PlcAt K H q t.1 t.2.1 t.2.2.1 t.2.2.2
def LpAt (H : Hp) (p : Addr) (t u : P4) (S : Int) (dn : Bool) (xs : List V) : Prop := ∃ dx lo hi st, H p = some (.ins (CL K) dx (lpf lo hi st S dn)) ∧ Pl4 K H lo t ∧ Pl4 K H hi u ∧ SqT K H st xs
def ckLp (m S : Int) (t u : P4) : Option Er := ckLoop m S t.1 t.2.1 t.2.2.1 t.2.2.2 u.1 u.2.1 u.2.2.1 u.2.2.2
def spLpI : Sp := fun vs H Q E => ∃ (p dx : Addr) (v1 v2 : V) (l : Addr) (xs : List V) (t u : P4) (S : Int) (dn : Bool), vs = [.ref p, v1, v2, .ref l, .int S, .bl dn] ∧ H p = some (.ins (CL K) dx []) ∧ PlV K H v1 t.1 t.2.1 t.2.2.1 t.2.2.2 ∧ PlV K H v2 u.1 u.2.1 u.2.2.1 u.2.2.2 ∧ SqA K H l xs ∧
  Out (ckLp xs.length S t u) (RzK K p H E) (∀ lo hi st H', H' p = some (.ins (CL K) dx (lpf lo hi st S dn)) → Pl4 K H' lo t → Pl4 K H' hi u → SqT K H' st xs → Keep p H H' → Q .non H')
end
theorem LpAt.same {K : PySem.W.Frag} {H H' : Hp} {p : Addr} {t u : P4} {S : Int} {dn : Bool} {xs : List V} (h : LpAt K H p t u S dn xs) (s : Same H H') : LpAt K H' p t u S dn xs := by
  obtain ⟨dx, lo, hi, st, h1, h2, h3, h4⟩ := h
  exact ⟨dx, lo, hi, st, s _ _ h1, PlcAt.same h2 s, PlcAt.same h3 s, SqT.same h4 s⟩
section
variable {P : Program} {w : World} {K : PySem.W.Frag} {mg : Str → Option Value} {base : Heap}
theorem scLoop__init__ : FnScope ["self", "low", "high", "statements", "step", "down"] ["self", "low", "high", "statements", "step", "down"] (defScope iLoop__init__) := ⟨rfl, rfl, rfl, by decide +kernel, rfl, by decide +kernel, by decide +kernel⟩
theorem ok_LpI {fd : FuncData} {kws : List (Str × V)} (F : FunD K "__init__" "Loop.__init__" (defArgs iLoop__init__) (defBody iLoop__init__) (defScope iLoop__init__) [] kws (He.ma K (CL K) "__init__") fd) (T : PrTx K mg) (MB : Mx P w K mg base "BadNumber" ["self", "what", "number"] ["what", "number"])
    (dCkM : Dx P w K mg base 3 "check_many" ["what", "things", "most"] (spCkM K)) (dCkN : Dx P w K mg base 3 "check_number" ["what", "number", "low", "high"] (spCkN K)) (dPLike : Dn P w K mg base 6 "place_like" ["value"] (spPLike K)) (dCkR : Dx P w K mg base 4 "check_range_place" ["place"] (spCkR K)) :
    FnOk P w K mg base (L2.CX P w) 7 (He.ma K (CL K) "__init__") fd ["self", "low", "high", "statements", "step", "down"] (spLpI K) := by
  refine F.ok scLoop__init__ (fun vs H Q E h => ?_) (fun cdv A outer s H vs Q E hr h => ?_)
  · obtain ⟨p, dx, v1, v2, l, xs, t, u, S, dn, rfl, _⟩ := h
    rfl
  · obtain ⟨p, dx, v1, v2, l, xs, ⟨a, c, d, e⟩, ⟨a2, c2, d2, e2⟩, S, dn, rfl, hp, hv1, hv2, hl, kk⟩ := h
    obtain ⟨tTOP_STEP, hTOP_STEP⟩ := T.con ("TOP_STEP", 16) (by simp)
    obtain ⟨tMOST_STATEMENTS, hMOST_STATEMENTS⟩ := T.con ("MOST_STATEMENTS", 16) (by simp)
    refine ⟨_, (pss_cons (ps_expr (pe_dx (K := K) dCkM rfl hr (fun σ => passAt (takes_of rfl rfl rfl rfl) σ) (pa_cons pe_str (pa_cons (pv 3) (pa_cons (pe_glob (v := .int 16) rfl hMOST_STATEMENTS ⟨tMOST_STATEMENTS, rfl⟩) pa_nil)))))
      (pss_cons (ps_expr (pe_dx (K := K) dCkN rfl hr (fun σ => passAt (takes_of rfl rfl rfl rfl) σ) (pa_cons pe_str (pa_cons (pv 4) (pa_cons pe_int (pa_cons (pe_glob (v := .int 16) rfl hTOP_STEP ⟨tTOP_STEP, rfl⟩) pa_nil))))))
      (pss_cons (ps_fld (pv 0) (pe_dn dPLike hr (pa_cons (pv 1) pa_nil)) rfl)
      (pss_cons (ps_fld (pv 0) (pe_dn dPLike hr (pa_cons (pv 2) pa_nil)) rfl)
      (pss_cons (ps_expr (pe_dx (K := K) dCkR rfl hr (fun σ => passAt (takes_of rfl rfl rfl rfl) σ) (pa_cons (pe_fld (pv 0) rfl) pa_nil)))
      (pss_cons (ps_expr (pe_dx (K := K) dCkR rfl hr (fun σ => passAt (takes_of rfl rfl rfl rfl) σ) (pa_cons (pe_fld (pv 0) rfl) pa_nil)))
      (pss_cons (ps_if (PW.pt (pw_and (pt_cmpR op_gt (pv 4) pe_int (nomark _)) (pw_and1 (pt_cmpR op_gt (pe_fld (pe_fld (pv 0) rfl) rfl) pe_int (nomark _))))) (pss_one (ps_raise rfl (takes_of rfl rfl rfl rfl) (pmk_err MB hr (pa_cons pe_str (pa_cons (pv 4) pa_nil))))) pss_nil)
      (pss_cons (ps_fld (pv 0) (pe_callTy call_tuple_of (by rfl) T.tuple (by decide +kernel) (pa_cons (pv 3) pa_nil)) rfl)
      (pss_cons (ps_fld (pv 0) (pv 4) rfl)
      (pss_one (ps_fld (pv 0) (pv 5) rfl))))))))))), ?_⟩
    have k0 : ∀ e, RzK K p H E e → Rz K H E e := fun e z => z.rz (Keep.ofSame (Same.refl H))
    refine ⟨_, rfl, _, _, _, _, rfl, hl, kk.or k0 fun kk => ?_⟩
    refine ⟨_, rfl, _, _, _, _, rfl, kk.or k0 fun kk => ?_⟩
    refine ⟨_, rfl, v1, _, _, _, _, rfl, hv1, fun lo H1 s1 hlo => ?_⟩
    have hp1 := s1 _ _ hp
    refine ⟨_, rfl, p, _, dx, _, rfl, hp1, T.clL, T.nLo, pl0, ?_⟩
    obtain ⟨H2, eH2⟩ : ∃ L, L = upd H1 p (.ins (CL K) dx (putF "low" (.ref lo) [])) := ⟨_, rfl⟩
    have k12 : Keep p H1 H2 := by rw [eH2]; exact keep_upd1
    have hp2 : H2 p = some (.ins (CL K) dx (putF "low" (.ref lo) [])) := by rw [eH2]; exact upd_same
    rw [← eH2]
    have n1 : (putF "low" (V.ref lo) []).lookup ("straight" : Str) = none ∧ (putF "low" (V.ref lo) []).lookup ("i" : Str) = none := ⟨nlk (by decide +kernel) rfl, nlk (by decide +kernel) rfl⟩
    refine ⟨_, rfl, v2, _, _, _, _, rfl, (hv2.same s1).up hp1 k12 rfl rfl, fun hi H3 s3 hhi => ?_⟩
    have hp3 := s3 _ _ hp2
    have hlo3 := (hlo.up hp1 k12 rfl rfl).same s3
    refine ⟨_, rfl, p, _, dx, _, rfl, hp3, T.clL, T.nHi, pl pl0, ?_⟩
    obtain ⟨H4, eH4⟩ : ∃ L, L = upd H3 p (.ins (CL K) dx (putF "high" (.ref hi) (putF "low" (.ref lo) []))) := ⟨_, rfl⟩
    have k34 : Keep p H3 H4 := by rw [eH4]; exact keep_upd1
    have hp4 : H4 p = some (.ins (CL K) dx (putF "high" (.ref hi) (putF "low" (.ref lo) []))) := by rw [eH4]; exact upd_same
    rw [← eH4]
    have hlo4 := hlo3.up hp3 k34 n1.1 n1.2
    have hhi4 := hhi.up hp3 k34 n1.1 n1.2
    have kp4 : Keep p H H4 := keep_trans2 (keep_trans (keep_trans2 (Keep.ofSame s1) k12) s3) k34
    have k4 : ∀ e, RzK K p H E e → Rz K H4 E e := fun e z => z.rz kp4
    have ll : (putF "high" (V.ref hi) (putF "low" (V.ref lo) [])).lookup ("low" : Str) = some (.ref lo) := by
      rw [lookup_putF, if_neg n_lh, lookup_putF, if_pos rfl]
    have lh : (putF "high" (V.ref hi) (putF "low" (V.ref lo) [])).lookup ("high" : Str) = some (.ref hi) := by
      rw [lookup_putF, if_pos rfl]
    refine ⟨_, rfl, p, _, dx, _, _, rfl, hp4, T.clL, T.nLo, ll, lo, _, _, _, _, rfl, hlo4, kk.or k4 fun kk => ?_⟩
    refine ⟨_, rfl, p, _, dx, _, _, rfl, hp4, T.clL, T.nHi, lh, hi, _, _, _, _, rfl, hhi4, kk.or k4 fun kk => ?_⟩
    obtain ⟨dq, rq, hq1, _⟩ := id hlo4
    have n2 : (putF "high" (V.ref hi) (putF "low" (V.ref lo) [])).lookup ("straight" : Str) = none ∧ (putF "high" (V.ref hi) (putF "low" (V.ref lo) [])).lookup ("i" : Str) = none := ⟨nlk (by decide +kernel) n1.1, nlk (by decide +kernel) n1.2⟩
    have fin : ∀ (h : ¬ (1 < S ∧ 1 < e)) (t : Addr) (H5 : Hp), Same H4 H5 → SqT K H5 t xs → H5 p = some (.ins (CL K) dx (putF "high" (.ref hi) (putF "low" (.ref lo) []))) ∧ Q .non (upd (upd (upd H5 p (.ins (CL K) dx (putF "statements" (.ref t) (putF "high" (.ref hi) (putF "low" (.ref lo) []))))) p (.ins (CL K) dx (putF "step" (.int S) (putF "statements" (.ref t) (putF "high" (.ref hi) (putF "low" (.ref lo) [])))))) p (.ins (CL K) dx (lpf lo hi t S dn))) := by
      intro h t H5 s5 ht
      have kk2 := kk.2 (if_neg h)
      have hp5 := s5 _ _ hp4
      have kp5 : Keep p H5 (upd (upd (upd H5 p (.ins (CL K) dx (putF "statements" (.ref t) (putF "high" (.ref hi) (putF "low" (.ref lo) []))))) p (.ins (CL K) dx (putF "step" (.int S) (putF "statements" (.ref t) (putF "high" (.ref hi) (putF "low" (.ref lo) [])))))) p (.ins (CL K) dx (lpf lo hi t S dn))) := keep_upd (keep_upd keep_upd1)
      exact ⟨hp5, kk2 lo hi t _ upd_same ((hlo4.same s5).up hp5 kp5 n2.1 n2.2) ((hhi4.same s5).up hp5 kp5 n2.1 n2.2) (SqT.up ht hp5 kp5) (keep_trans2 (keep_trans kp4 s5) kp5)⟩
    refine ⟨_, rfl, _, _, rfl, rfl, _, rfl, ?_⟩
    by_cases hS : 1 < S
    · rw [decide_eq_true hS]
      refine iteT ⟨_, rfl, p, _, dx, _, _, rfl, hp4, T.clL, T.nLo, ll, lo, _, dq, _, _, rfl, hq1, T.plc.clP, T.plc.nD, pf_d _ _, _, _, rfl, rfl, _, rfl, ?_⟩
      by_cases he : 1 < e
      · rw [decide_eq_true he]
        have bad := k4 _ (kk.1 _ (if_pos ⟨hS, he⟩))
        exact iteT ⟨_, rfl, err_go (K := K) (x := "BadNumber") (fs := ["what", "number"]) (by show 2 ≤ 1000; decide) rfl fun d H' s hd => bad d H' s hd⟩
      · rw [decide_eq_false he]
        refine iteF ?_
        rcases SqA.up hl hp kp4 with hL | hL
        · refine ⟨_, rfl, l, xs, rfl, .inl ⟨hL, fun t ht => ?_⟩⟩
          obtain ⟨t1, t2⟩ := fin (fun z => he z.2) t _ (Same.new (.tup xs) (Same.refl H4) ht) (SqT.of upd_same)
          refine ⟨_, rfl, p, _, dx, _, rfl, t1, T.clL, T.nSt, pl (pl pl0), ?_⟩
          refine ⟨_, rfl, _, rfl, p, _, dx, _, rfl, upd_same, T.clL, T.nSp, pl (pl (pl pl0)), ?_⟩
          exact ⟨_, rfl, _, rfl, p, _, dx, _, rfl, upd_same, T.clL, T.nDn, pl (pl (pl (pl pl0))), t2⟩
        · obtain ⟨t1, t2⟩ := fin (fun z => he z.2) l _ (Same.refl H4) hL
          refine ⟨_, rfl, l, xs, rfl, .inr ⟨hL, ?_⟩⟩
          refine ⟨_, rfl, p, _, dx, _, rfl, t1, T.clL, T.nSt, pl (pl pl0), ?_⟩
          refine ⟨_, rfl, _, rfl, p, _, dx, _, rfl, upd_same, T.clL, T.nSp, pl (pl (pl pl0)), ?_⟩
          exact ⟨_, rfl, _, rfl, p, _, dx, _, rfl, upd_same, T.clL, T.nDn, pl (pl (pl (pl pl0))), t2⟩
    · rw [decide_eq_false hS]
      refine iteF ?_
      rcases SqA.up hl hp kp4 with hL | hL
      · refine ⟨_, rfl, l, xs, rfl, .inl ⟨hL, fun t ht => ?_⟩⟩
        obtain ⟨t1, t2⟩ := fin (fun z => hS z.1) t _ (Same.new (.tup xs) (Same.refl H4) ht) (SqT.of upd_same)
        refine ⟨_, rfl, p, _, dx, _, rfl, t1, T.clL, T.nSt, pl (pl pl0), ?_⟩
        refine ⟨_, rfl, _, rfl, p, _, dx, _, rfl, upd_same, T.clL, T.nSp, pl (pl (pl pl0)), ?_⟩
        exact ⟨_, rfl, _, rfl, p, _, dx, _, rfl, upd_same, T.clL, T.nDn, pl (pl (pl (pl pl0))), t2⟩
      · obtain ⟨t1, t2⟩ := fin (fun z => hS z.1) l _ (Same.refl H4) hL
        refine ⟨_, rfl, l, xs, rfl, .inr ⟨hL, ?_⟩⟩
        refine ⟨_, rfl, p, _, dx, _, rfl, t1, T.clL, T.nSt, pl (pl pl0), ?_⟩
        refine ⟨_, rfl, _, rfl, p, _, dx, _, rfl, upd_same, T.clL, T.nSp, pl (pl (pl pl0)), ?_⟩
        exact ⟨_, rfl, _, rfl, p, _, dx, _, rfl, upd_same, T.clL, T.nDn, pl (pl (pl (pl pl0))), t2⟩
end
end K26
set_option maxHeartbeats 4000000
namespace K26
open PySem PySem.Spec PyProof.Rows L2 Z
section
variable (K : PySem.W.Frag)
def RdN (H : Hp) (v : V) (y : Str) : Prop := ∃ p dx fs, v = .ref p ∧ H p = some (.ins (CRd K) dx fs) ∧ fs.lookup ("array" : Str) = some (.str y)
def RdNs (H : Hp) (vs : List V) (ys : List Str) : Prop := vs.length = ys.length ∧ ∀ (i : Nat) (v : V) (y : Str), vs[i]? = some v → ys[i]? = some y → RdN K H v y
def StN (H : Hp) (v : V) (m : List Str) : Prop := ∃ p dx fs x r rs ys, v = .ref p ∧ H p = some (.ins (CSt K) dx fs) ∧ fs.lookup ("array" : Str) = some (.str x) ∧ fs.lookup ("reads" : Str) = some (.ref r) ∧ SqT K H r rs ∧ RdNs K H rs ys ∧ m = x :: ys
def StNs (H : Hp) (vs : List V) (ms : List (List Str)) : Prop := vs.length = ms.length ∧ ∀ (i : Nat) (v : V) (m : List Str), vs[i]? = some v → ms[i]? = some m → StN K H v m
def LpN (H : Hp) (v : V) (m : List Str) : Prop := ∃ p dx fs st xs ms, v = .ref p ∧ H p = some (.ins (CL K) dx fs) ∧ fs.lookup ("statements" : Str) = some (.ref st) ∧ SqT K H st xs ∧ StNs K H xs ms ∧ m = ms.flatten
def LpNs (H : Hp) (vs : List V) (ms : List (List Str)) : Prop := vs.length = ms.length ∧ ∀ (i : Nat) (v : V) (m : List Str), vs[i]? = some v → ms[i]? = some m → LpN K H v m
def spArr : Sp := fun vs H Q _ => ∃ (l : Addr) (xs : List V) (ms : List (List Str)), vs = [.ref l] ∧ SqT K H l xs ∧ LpNs K H xs ms ∧ ms.flatten.length ≤ 4000 ∧
  ∀ t ys H', Same H H' → ys.Nodup → (∀ x, x ∈ ys ↔ x ∈ ms.flatten) → sortedS ys = true → SqT K H' t (ys.map V.str) → Q (.ref t) H'
def prf2 (l a : Addr) : List (Str × V) := putF "arrays" (.ref a) (putF "loops" (.ref l) [])
def prf (l a d : Addr) : List (Str × V) := putF "known" (.ref d) (prf2 l a)
def spPrI : Sp := fun vs H Q E => ∃ (p dx l : Addr) (xs : List V) (ms : List (List Str)), vs = [.ref p, .ref l] ∧ H p = some (.ins (CPr K) dx []) ∧ SqA K H l xs ∧ LpNs K H xs ms ∧ ms.flatten.length ≤ 4000 ∧
  Out (ckM "loops" xs.length 6) (RzK K p H E) (∀ (lt at_ dt : Addr) (ys : List Str) (H' : Hp), H' p = some (.ins (CPr K) dx (prf lt at_ dt)) → SqT K H' lt xs → SqT K H' at_ (ys.map V.str) → ys.Nodup → (∀ x, x ∈ ys ↔ x ∈ ms.flatten) → sortedS ys = true → Keep p H H' → Q .non H')
end
theorem zip_at {α : Type} {vs : List V} {ms : List α} (h : vs.length = ms.length) {i : Nat} {v : V} (hv : vs[i]? = some v) : ∃ m, ms[i]? = some m := by
  have hi : i < vs.length := (List.getElem?_eq_some_iff.mp hv).1
  exact ⟨ms[i]'(h ▸ hi), List.getElem?_eq_getElem (h ▸ hi)⟩
theorem flat_take {ms : List (List Str)} {i : Nat} {m : List Str} (h : ms[i]? = some m) : (ms.take (i + 1)).flatten = (ms.take i).flatten ++ m := by
  rw [List.take_add_one, h]
  simp
theorem flat_le {ms : List (List Str)} {i : Nat} : (ms.take i).flatten.length ≤ ms.flatten.length := by
  have e : ms.flatten = (ms.take i).flatten ++ (ms.drop i).flatten := by rw [← List.flatten_append, List.take_append_drop]
  rw [e, List.length_append]
  omega
section
variable {K : PySem.W.Frag} {H H' : Hp}
theorem RdN.same {v : V} {y : Str} (h : RdN K H v y) (s : Same H H') : RdN K H' v y := by
  obtain ⟨p, dx, fs, e, h1, h2⟩ := h
  exact ⟨p, dx, fs, e, s _ _ h1, h2⟩
theorem RdNs.same {vs : List V} {ys : List Str} (h : RdNs K H vs ys) (s : Same H H') : RdNs K H' vs ys := ⟨h.1, fun i v y a b => (h.2 i v y a b).same s⟩
theorem StN.same {v : V} {m : List Str} (h : StN K H v m) (s : Same H H') : StN K H' v m := by
  obtain ⟨p, dx, fs, x, r, rs, ys, e, h1, h2, h3, h4, h5, h6⟩ := h
  exact ⟨p, dx, fs, x, r, rs, ys, e, s _ _ h1, h2, h3, SqT.same h4 s, h5.same s, h6⟩
theorem StNs.same {vs : List V} {ms : List (List Str)} (h : StNs K H vs ms) (s : Same H H') : StNs K H' vs ms := ⟨h.1, fun i v y a b => (h.2 i v y a b).same s⟩
theorem LpN.same {v : V} {m : List Str} (h : LpN K H v m) (s : Same H H') : LpN K H' v m := by
  obtain ⟨p, dx, fs, st, xs, ms, e, h1, h2, h3, h4, h5⟩ := h
  exact ⟨p, dx, fs, st, xs, ms, e, s _ _ h1, h2, SqT.same h3 s, h4.same s, h5⟩
theorem LpNs.same {vs : List V} {ms : List (List Str)} (h : LpNs K H vs ms) (s : Same H H') : LpNs K H' vs ms := ⟨h.1, fun i v y a b => (h.2 i v y a b).same s⟩
variable {p C dx : Addr} {fs : List (Str × V)}
theorem LpNs.up {vs : List V} {ms : List (List Str)} (h : LpNs K H vs ms) (hp : H p = some (.ins C dx fs)) (k : Keep p H H') (n1 : fs.lookup ("statements" : Str) = none) (n2 : fs.lookup ("array" : Str) = none) : LpNs K H' vs ms := by
  have ne : ∀ {q D dy : Addr} {gs : List (Str × V)} {f : Str} {v : V}, H q = some (.ins D dy gs) → gs.lookup f = some v → fs.lookup f = none → q ≠ p := fun h1 h2 h3 z => by
    subst z
    rw [ins_inj hp h1, h2] at h3
    cases h3
  refine ⟨h.1, fun i v m a b => ?_⟩
  obtain ⟨q, dy, gs, st, xs, m2, e, h1, h2, h3, h4, h5⟩ := h.2 i v m a b
  refine ⟨q, dy, gs, st, xs, m2, e, k _ _ (ne h1 h2 n1) h1, h2, SqT.up h3 hp k, ⟨h4.1, fun i v m a b => ?_⟩, h5⟩
  obtain ⟨q, dy, gs, x, r, rs, ys, e, h1, h2, h3, h4, h5, h6⟩ := h4.2 i v m a b
  refine ⟨q, dy, gs, x, r, rs, ys, e, k _ _ (ne h1 h2 n2) h1, h2, h3, SqT.up h4 hp k, ⟨h5.1, fun i v y a b => ?_⟩, h6⟩
  obtain ⟨q, dy, gs, e, h1, h2⟩ := h5.2 i v y a b
  exact ⟨q, dy, gs, e, k _ _ (ne h1 h2 n2) h1, h2⟩
end
section
variable {P : Program} {w : World} {K : PySem.W.Frag} {mg : Str → Option Value} {base : Heap}
theorem sc_arrays_in : FnScope ["loops", "names", "loop", "statement", "read"] ["loops"] (defScope s_arrays_in) := ⟨rfl, rfl, rfl, by decide +kernel, rfl, by decide +kernel, by decide +kernel⟩
theorem ok_arr {f : Addr} {fd : FuncData} (F : FnP K "arrays_in" s_arrays_in f fd) (T : PrTx K mg) : FnOk P w K mg base CX0 1 f fd ["loops"] (spArr K) := by
  refine F.ok sc_arrays_in (fun vs H Q E h => ?_) (fun cdv A outer s H vs Q E hr h => ?_)
  · obtain ⟨l, xs, ms, rfl, _⟩ := h
    rfl
  · obtain ⟨l, xs, ms, rfl, hl, hms, hfew, k⟩ := h
    refine ⟨_, PSs.nox (pss_cons (ps_set (i := 1) sc_arrays_in.nd rfl (Or.inl rfl) (pe_lst pa_nil))
      (pss_cons (ps_for PassesOwn.never rfl (pi_tup (pv 0)) (pg_name (i := 2) sc_arrays_in.nd rfl (.inl rfl)) (pss_one (ps_for PassesOwn.never rfl (pi_tup (pe_fld (pv 2) rfl)) (pg_name (i := 3) sc_arrays_in.nd rfl (.inl rfl)) (pss_cons (ps_expr (pe_bm PySem.F.plainAttrs_list PySem.F.slot_list_append PySem.F.type_list_append mt_append (pv 1) (pa_cons (pe_fld (pv 3) rfl) pa_nil)))
      (pss_one (ps_expr (pe_bm PySem.F.plainAttrs_list PySem.F.slot_list_extend PySem.F.type_list_extend mt_extend (pv 1) (pa_cons (pe_lc (own := [("read", 4)]) (g := gName 4) (tt := tYes) rfl sc_arrays_in.nd (pi_tup (pe_fld (pv 3) rfl)) (blkOk_by (N := ["loops", "names", "loop", "statement", "read"]) (sc := defScope s_arrays_in) (by decide +kernel)) (fun _ _ _ _ _ => (pg_name (i := 4) sc_arrays_in.nd rfl (.inl rfl))) (fun _ _ _ _ _ => pts_nil) (fun _ _ _ _ _ => (pe_fldK (K := K) rfl (pv 4)))) pa_nil))))))))
      (pss_one (ps_ret (pe_callTy call_tuple_of (by rfl) T.tuple (by decide +kernel) (pa_cons (pe_callB (cr_sortedTx rfl) (by rfl) T.sorted (by decide +kernel) (pa_cons (pe_callTy (cr_setTx rfl) (by rfl) T.set (by decide +kernel) (pa_cons (pv 1) pa_nil)) pa_nil)) pa_nil)))))), ?_⟩
    refine ⟨Nat.zero_le _, fun N hN => ?_⟩
    have sN : Same H (upd H N (.lst [])) := Same.new _ (Same.refl H) hN
    have szl : 5000 ≤ sizeLine := by show 5000 ≤ sizeLine; decide
    have nN : ∀ {Hc : Hp}, (∀ b o, H b = some o → Hc b = some o) → ∀ o', ∀ b o, H b = some o → (upd Hc N o') b = some o := fun hk o' b o e => by
      rw [upd_ne (ne_of_none e hN)]
      exact hk b o e
    refine ⟨_, rfl, l, rfl, ⟨_, SqT.same hl sN⟩, for_tup (xs := xs) (fun i σ Hc => ∃ v2 v3 : Option V, σ = [some (.ref l), some (.ref N), v2, v3, none] ∧ Hc N = some (.lst ((ms.take i).flatten.map V.str)) ∧ ∀ b o, H b = some o → Hc b = some o) ⟨_, _, rfl, upd_same, sN⟩ (fun i σ Hc _ ⟨_, _, _, _, s⟩ => SqT.same hl s) ?_ ?_⟩
    · rintro i v σ Hc hv ⟨v2, v3, rfl, hN1, s1⟩
      obtain ⟨m, hm⟩ := zip_at hms.1 hv
      obtain ⟨p, dx, fs, st, ss, m2, rfl, h1, h2, h3, h4, h5⟩ := (hms.2 i v m hv hm).same s1
      refine normG (σ' := [some (.ref l), some (.ref N), some (.ref p), v3, none]) rfl ?_
      refine ⟨_, rfl, p, _, dx, _, _, rfl, h1, T.clL, T.nSt, h2, st, rfl, ⟨_, h3⟩, ?_⟩
      have tot : (ms.take i).flatten.length + m.length ≤ 4000 := by
        have e := flat_take hm
        have q := flat_le (ms := ms) (i := i + 1)
        rw [e, List.length_append] at q
        omega
      refine for_tup (xs := ss) (fun j σ Hd => ∃ v3 : Option V, σ = [some (.ref l), some (.ref N), some (.ref p), v3, none] ∧ Hd N = some (.lst (((ms.take i).flatten ++ (m2.take j).flatten).map V.str)) ∧ (∀ b o, H b = some o → Hd b = some o) ∧ SqT K Hd st ss ∧ StNs K Hd ss m2) ⟨_, rfl, by simpa using hN1, s1, h3, h4⟩ (fun j σ Hd _ ⟨_, _, _, _, z, _⟩ => z) ?_ ?_
      · rintro j v σ Hd hv2 ⟨v3, rfl, hN2, s2, hst, hsn⟩
        obtain ⟨m3, hm3⟩ := zip_at hsn.1 hv2
        obtain ⟨q, dq, gs, x, r, rs, ys, rfl, g1, g2, g3, g4, g5, g6⟩ := hsn.2 j v m3 hv2 hm3
        have tot2 : (ms.take i).flatten.length + ((m2.take j).flatten.length + m3.length) ≤ 4000 := by
          have e := flat_take hm3
          have z := flat_le (ms := m2) (i := j + 1)
          rw [e, List.length_append] at z
          rw [h5] at tot
          omega
        have l3 : m3.length = 1 + rs.length := by rw [g6, g5.1, List.length_cons]; omega
        refine normG (σ' := [some (.ref l), some (.ref N), some (.ref p), some (.ref q), none]) rfl ?_
        have noN : ∀ {C d : Addr} {fs : List (Str × V)} {b : Addr}, Hd b = some (.ins C d fs) → b ≠ N := fun e z => by
          rw [z, hN2] at e
          cases e
        refine ⟨_, rfl, .inl ⟨rfl, _, SqL.of hN2⟩, _, rfl, q, _, dq, _, _, rfl, g1, T.clM, T.nMA, g2, N, _, _, rfl, rfl, hN2, ?_, ?_⟩
        · rw [List.length_map, List.length_append]
          omega
        obtain ⟨He, eHe⟩ : ∃ L, L = upd Hd N (.lst (((ms.take i).flatten ++ (m2.take j).flatten).map V.str ++ [.str x])) := ⟨_, rfl⟩
        have kE : ∀ b o, b ≠ N → Hd b = some o → He b = some o := fun b o nb e => by rw [eHe, upd_ne nb]; exact e
        have hNE : He N = some (.lst (((ms.take i).flatten ++ (m2.take j).flatten).map V.str ++ [.str x])) := by rw [eHe]; exact upd_same
        rw [← eHe]
        have upT : ∀ {b : Addr} {zs : List V} {Ha Hb : Hp} {ws : List V}, Ha N = some (.lst ws) → (∀ b o, b ≠ N → Ha b = some o → Hb b = some o) → SqT K Ha b zs → SqT K Hb b zs := fun hw kk hz => hz.imp (fun z => z.imp (fun z => kk _ _ (fun y => by
          rw [y, hw] at z
          cases z) z) fun ⟨o, z⟩ => ⟨o, kk _ _ (fun y => by
          rw [y, hw] at z
          cases z) z⟩) id
        have upN : ∀ {Ha Hb : Hp} {ws : List V}, Ha N = some (.lst ws) → (∀ b o, b ≠ N → Ha b = some o → Hb b = some o) → StNs K Ha ss m2 → StNs K Hb ss m2 := fun {Ha Hb ws} hw kk z => ⟨z.1, fun i v m a b => by
          have no : ∀ {C d : Addr} {fs : List (Str × V)} {b : Addr}, Ha b = some (.ins C d fs) → b ≠ N := fun e y => by
            rw [y, hw] at e
            cases e
          obtain ⟨q, dq, gs, x, r, rs, ys, e, g1, g2, g3, g4, g5, g6⟩ := z.2 i v m a b
          refine ⟨q, dq, gs, x, r, rs, ys, e, kk _ _ (no g1) g1, g2, g3, upT hw kk g4, ⟨g5.1, fun i v y a b => ?_⟩, g6⟩
          obtain ⟨q, dq, gs, e, g1, g2⟩ := g5.2 i v y a b
          exact ⟨q, dq, gs, e, kk _ _ (no g1) g1, g2⟩⟩
        have g1E := kE _ _ (noN g1) g1
        have g4E := upT hN2 kE g4
        have stE := upT hN2 kE hst
        have snE := upN hN2 kE hsn
        have g5E : RdNs K He rs ys := ⟨g5.1, fun i v y a b => by
          obtain ⟨q, dq, gs, e, g1, g2⟩ := g5.2 i v y a b
          exact ⟨q, dq, gs, e, kE _ _ (noN g1) g1, g2⟩⟩
        have sE : ∀ b o, H b = some o → He b = some o := fun b o e => kE b o (ne_of_none e hN) (s2 b o e)
        refine ⟨_, rfl, .inl ⟨rfl, _, SqL.of hNE⟩, _, rfl, q, _, dq, _, _, rfl, g1E, T.clM, T.nMR, g3, r, rfl, ⟨_, g4E⟩, fun D hD => ?_⟩
        have sD := Same.new (.lst []) (Same.refl He) hD
        refine lc_tup (xs := rs) (fun n Hf => Hf D = some (.lst ((ys.take n).map V.str)) ∧ ∀ b o, He b = some o → Hf b = some o) ⟨upd_same, sD⟩ (fun n Hf _ z => SqT.same g4E z.2) ?_ ?_
        · rintro n v Hf hv3 ⟨hD1, kF⟩
          obtain ⟨y, hy⟩ := zip_at g5E.1 hv3
          obtain ⟨u, du, us, rfl, u1, u2⟩ := g5E.2 n v y hv3 hy
          refine ⟨rfl, yes_of ?_⟩
          refine ⟨_, rfl, u, _, du, _, _, rfl, kF _ _ u1, T.clR, T.nRA, u2, _, hD1, ?_, ?_, fun b o e => ?_⟩
          · rw [List.length_map, List.length_take]
            have := g5.1
            omega
          · rw [upd_same, List.take_add_one, hy]
            simp
          · rw [upd_ne (ne_of_none e hD)]
            exact kF b o e
        · rintro Hf ⟨hD1, kF⟩
          rw [g5E.1, List.take_length] at hD1
          have hNF := kF _ _ hNE
          refine ⟨N, D, _, _, rfl, rfl, hNF, hD1, ?_, ?_⟩
          · rw [List.length_append, List.length_map, List.length_map, List.length_append, List.length_singleton]
            have := g5.1
            omega
          have kG : ∀ b o, b ≠ N → Hf b = some o → (upd Hf N (.lst (((ms.take i).flatten ++ (m2.take j).flatten).map V.str ++ [.str x] ++ ys.map V.str))) b = some o := fun b o nb e => by rw [upd_ne nb]; exact e
          refine ⟨_, rfl, ?_, fun b o e => kG b o (ne_of_none e hN) (kF _ _ (sE _ _ e)), upT hNF kG (SqT.same stE kF), upN hNF kG (snE.same kF)⟩
          rw [upd_same, flat_take hm3, g6]
          simp
      · rintro σ Hd ⟨v3, rfl, hN2, s2, _, hsn⟩
        refine ⟨_, _, rfl, ?_, s2⟩
        rw [hsn.1, List.take_length, ← h5] at hN2
        rw [flat_take hm]
        exact hN2
    · rintro σ Hc ⟨v2, v3, rfl, hN1, s1⟩
      rw [hms.1, List.take_length] at hN1
      refine ⟨_, rfl, N, _, rfl, SqL.of hN1, by show _ < 4096; omega, fun a ha => ?_⟩
      have s2 := Same.new (TxO w a ms.flatten.reverse) (Same.refl Hc) ha
      refine ⟨a, _, rfl, upd_same, by rw [List.length_reverse]; omega, fun ys p nd mem srt hp => ?_⟩
      refine ⟨p, _, rfl, .inl ⟨SqL.of upd_same, fun t ht => ?_⟩⟩
      refine k t ys _ (Same.new _ (Same.new _ (Same.new _ s1 ha) hp) ht) nd (fun x => by rw [mem x, List.mem_reverse]) srt (SqT.of upd_same)
theorem scProgram__init__ : FnScope ["self", "loops"] ["self", "loops"] (defScope iProgram__init__) := ⟨rfl, rfl, rfl, by decide +kernel, rfl, by decide +kernel, by decide +kernel⟩
theorem ok_PrI {fd : FuncData} {kws : List (Str × V)} (F : FunD K "__init__" "Program.__init__" (defArgs iProgram__init__) (defBody iProgram__init__) (defScope iProgram__init__) [] kws (He.ma K (CPr K) "__init__") fd) (T : PrTx K mg)
    (dCkM : Dx P w K mg base 3 "check_many" ["what", "things", "most"] (spCkM K)) (dArrays : Dn P w K mg base 1 "arrays_in" ["loops"] (spArr K)) :
    FnOk P w K mg base (L2.CX P w) 4 (He.ma K (CPr K) "__init__") fd ["self", "loops"] (spPrI K) := by
  refine F.ok scProgram__init__ (fun vs H Q E h => ?_) (fun cdv A outer s H vs Q E hr h => ?_)
  · obtain ⟨p, dx, l, xs, ms, rfl, _⟩ := h
    rfl
  · obtain ⟨p, dx, l, xs, ms, rfl, hp, hl, hms, few, kk⟩ := h
    obtain ⟨tMOST_LOOPS, hMOST_LOOPS⟩ := T.con ("MOST_LOOPS", 6) (by simp)
    refine ⟨_, (pss_cons (ps_expr (pe_dx (K := K) dCkM rfl hr (fun σ => passAt (takes_of rfl rfl rfl rfl) σ) (pa_cons pe_str (pa_cons (pv 1) (pa_cons (pe_glob (v := .int 6) rfl hMOST_LOOPS ⟨tMOST_LOOPS, rfl⟩) pa_nil)))))
      (pss_cons (ps_fld (pv 0) (pe_callTy call_tuple_of (by rfl) T.tuple (by decide +kernel) (pa_cons (pv 1) pa_nil)) rfl)
      (pss_cons (ps_fld (pv 0) (pe_dn dArrays hr (pa_cons (pe_fld (pv 0) rfl) pa_nil)) rfl)
      (pss_one (ps_fld (pv 0) pe_dnewK rfl))))), ?_⟩
    refine ⟨_, rfl, _, _, _, _, rfl, hl, Out.end_ kk (fun e z => z.rz (Keep.ofSame (Same.refl H))) fun kk => ?_⟩
    have tail : ∀ (lt : Addr) (H1 : Hp), Same H H1 → SqT K H1 lt xs → H1 p = some (.ins (CPr K) dx []) ∧ SqT K (upd H1 p (.ins (CPr K) dx (putF "loops" (.ref lt) []))) lt xs ∧ LpNs K (upd H1 p (.ins (CPr K) dx (putF "loops" (.ref lt) []))) xs ms ∧
        ∀ (t : Addr) (ys : List Str) (H' : Hp), Same (upd H1 p (.ins (CPr K) dx (putF "loops" (.ref lt) []))) H' → ys.Nodup → (∀ x, x ∈ ys ↔ x ∈ ms.flatten) → sortedS ys = true → SqT K H' t (ys.map V.str) →
          H' p = some (.ins (CPr K) dx (putF "loops" (.ref lt) [])) ∧ ∀ d, (upd H' p (.ins (CPr K) dx (prf2 lt t))) d = none → (upd (upd H' p (.ins (CPr K) dx (prf2 lt t))) d (.dK [])) p = some (.ins (CPr K) dx (prf2 lt t)) ∧ Q .non (upd (upd (upd H' p (.ins (CPr K) dx (prf2 lt t))) d (.dK [])) p (.ins (CPr K) dx (prf lt t d))) := by
      intro lt H1 s1 hlt
      have hp1 := s1 _ _ hp
      have k1 : Keep p H1 (upd H1 p (.ins (CPr K) dx (putF "loops" (.ref lt) []))) := keep_upd1
      refine ⟨hp1, SqT.up hlt hp1 k1, (hms.same s1).up hp1 k1 rfl rfl, fun t ys H' s2 nd mem srt ht => ?_⟩
      have hp2 := s2 _ _ upd_same
      refine ⟨hp2, fun d hd => ?_⟩
      have k2 : Keep p H' (upd H' p (.ins (CPr K) dx (prf2 lt t))) := keep_upd1
      have s3 := Same.new (.dK []) (Same.refl (upd H' p (.ins (CPr K) dx (prf2 lt t)))) hd
      have hp3 : (upd (upd H' p (.ins (CPr K) dx (prf2 lt t))) d (.dK [])) p = some (.ins (CPr K) dx (prf2 lt t)) := s3 _ _ upd_same
      have k4 : Keep p (upd (upd H' p (.ins (CPr K) dx (prf2 lt t))) d (.dK [])) (upd (upd (upd H' p (.ins (CPr K) dx (prf2 lt t))) d (.dK [])) p (.ins (CPr K) dx (prf lt t d))) := keep_upd1
      refine ⟨hp3, kk lt t d ys _ upd_same (SqT.up (SqT.same (SqT.up (SqT.same (SqT.up hlt hp1 k1) s2) hp2 k2) s3) hp3 k4) (SqT.up (SqT.same (SqT.up ht hp2 k2) s3) hp3 k4) nd mem srt ?_⟩
      exact keep_trans2 (keep_trans (keep_trans2 (keep_trans (keep_trans2 (Keep.ofSame s1) k1) s2) k2) s3) k4
    rcases hl with hL | hL
    · refine ⟨_, rfl, l, xs, rfl, .inl ⟨hL, fun lt hlt => ?_⟩⟩
      obtain ⟨t1, t2, t3, t4⟩ := tail lt _ (Same.new (.tup xs) (Same.refl H) hlt) (SqT.of upd_same)
      refine ⟨_, rfl, p, _, dx, _, rfl, t1, T.clP, T.nPL, pl0, ?_⟩
      refine ⟨_, rfl, p, _, dx, _, _, rfl, upd_same, T.clP, T.nPL, (by rw [lookup_putF, if_pos rfl]), lt, xs, ms, rfl, t2, t3, few, fun t ys H' s nd mem srt ht => ?_⟩
      obtain ⟨t5, t6⟩ := t4 t ys H' s nd mem srt ht
      refine ⟨_, rfl, p, _, dx, _, rfl, t5, T.clP, T.nPA, pl pl0, ?_⟩
      intro d hd
      obtain ⟨t7, t8⟩ := t6 d hd
      exact ⟨_, rfl, p, _, dx, _, rfl, t7, T.clP, T.nPK, pl (pl pl0), t8⟩
    · obtain ⟨t1, t2, t3, t4⟩ := tail l _ (Same.refl H) hL
      refine ⟨_, rfl, l, xs, rfl, .inr ⟨hL, ?_⟩⟩
      refine ⟨_, rfl, p, _, dx, _, rfl, t1, T.clP, T.nPL, pl0, ?_⟩
      refine ⟨_, rfl, p, _, dx, _, _, rfl, upd_same, T.clP, T.nPL, (by rw [lookup_putF, if_pos rfl]), l, xs, ms, rfl, t2, t3, few, fun t ys H' s nd mem srt ht => ?_⟩
      obtain ⟨t5, t6⟩ := t4 t ys H' s nd mem srt ht
      refine ⟨_, rfl, p, _, dx, _, rfl, t5, T.clP, T.nPA, pl pl0, ?_⟩
      intro d hd
      obtain ⟨t7, t8⟩ := t6 d hd
      exact ⟨_, rfl, p, _, dx, _, rfl, t7, T.clP, T.nPK, pl (pl pl0), t8⟩
end
end K26
set_option maxHeartbeats 4000000
namespace Z
open PySem PySem.Spec PyProof.Rows L2
section
variable {X : Cx} {K : PySem.W.Frag} {k j n : Nat} {f C : Addr} {fd : FuncData} {ps ks : List Str} {sp : Sp} {E : L2.St → XK} {x : Str} {p pos : Pos} {e : Expr} {es : List Expr} {kws : List Keyword} {t tk : TA} {g : List Value → List Value → List Value} {gV : List V → List V → List V}
/-- C(e, ..) with the promise of __init__ in another form -/
theorem pe_mkR {R : List V → Hp → VK → XK → Prop} {dvs : List V} {ds : List Value} (M : Mc X.prog X.w K X.mg X.base j x f fd ps sp) (hK : X.K = K) (hb : Binds K fd ps ds) (hd : Vals dvs ds)
    (of : ∀ {vs H Q E y dx}, R vs H Q E → H y = none → H dx = none → dx ≠ y → sp (.ref y :: (vs ++ dvs)) (upd (upd H dx (.own y)) y (.ins (He.ga K x) dx [])) (fun v H2 => v = .non ∧ Q (.ref y) H2) E)
    (hr : Room k X.A) (hx : ∀ σ, PassesAt (L2.CX X.prog X.w) X σ (E σ)) (ha : PA X (e :: es) t) (hjk : j + 1 ≤ k) (hg : Gl X x)
    (hdb : (x == ("__debug__" : Str)) = false) (he : starEach (e :: es) X.env = (false, eval e X.env) :: starEach es X.env) (hpl : (backTo pos (starEach es X.env)).any (·.1) = false) :
    PE X (.Call (.Name x p) (e :: es) [] pos) (fun σ H Q => t σ H fun vs H1 => R vs H1 Q (E σ)) := by
  subst hK
  refine ⟨fun pins s σ H Q I h => ?_⟩
  refine wpAny_Call_Name_kw (ld_glob I hg M.gC ?_ hdb)
  refine PySem.W.callWith_K (h₀ := X.base) I.ok.mod.kin M.mK.kp (thn (ha.run pos pins s σ H _ I h) fun us s1 ⟨vs, H1, I1, r, q⟩ => ⟨I1.kIn, ?_⟩) he hpl
  have q0 := of q (I1.hok.fresh (Nat.le_succ _)) (I1.hok.fresh (Nat.le_refl _)) (Nat.ne_of_lt (Nat.lt_succ_self _))
  have len : ∀ a : Addr, (Value.ref a :: us ++ ds).length = ps.length := fun a => by
    have e := M.fn.len _ _ _ _ q0
    have l1 := r.length
    have l2 := hd.length
    simp only [List.length_cons, List.length_append] at e ⊢
    omega
  exact make_run M.mK M.fn (hr.mono hjk) (hx σ) I1 (fun a => .cons rfl (r.append hd)) (fun s' a k => hb s' (Value.ref a :: us) k (len a)) fun y dx ny nd ne => of q ny nd ne
/-- C(e, .., k = v, ..) likewise -/
theorem pe_mkRK {R : List V → List V → Hp → VK → XK → Prop} (M : Mc X.prog X.w K X.mg X.base j x f fd ps sp) (hK : X.K = K) (hb : KBn K fd ps (n + 1) ks g gV)
    (of : ∀ {vs zs H Q E}, R vs zs H Q E → vs.length = n ∧ zs.length = ks.length ∧ ∀ y dx, H y = none → H dx = none → dx ≠ y → sp (gV (.ref y :: vs) zs) (upd (upd H dx (.own y)) y (.ins (He.ga K x) dx [])) (fun v H2 => v = .non ∧ Q (.ref y) H2) E)
    (hr : Room k X.A) (hx : ∀ σ, PassesAt (L2.CX X.prog X.w) X σ (E σ)) (ha : PA X (e :: es) t) (hkw : PK X kws tk) (hjk : j + 1 ≤ k) (hg : Gl X x)
    (hall : (backToKw pos (keywordEach kws X.env)).all (·.1.isSome) = true) (hks : (backToKw pos (keywordEach kws X.env)).filterMap (·.1) = ks) (hdb : (x == ("__debug__" : Str)) = false)
    (he : starEach (e :: es) X.env = (false, eval e X.env) :: starEach es X.env) (hpl : ((backTo pos (starEach (e :: es) X.env)).any (·.1) || (backToKw pos (keywordEach kws X.env)).any (·.1.isNone)) = false) :
    PE X (.Call (.Name x p) (e :: es) kws pos) (fun σ H Q => t σ H fun vs H1 => tk σ H1 fun zs H2 => R vs zs H2 Q (E σ)) := by
  subst hK
  refine ⟨fun pins s σ H Q I h => ?_⟩
  refine wpAny_Call_Name_kw (ld_glob I hg M.gC ?_ hdb)
  refine PySem.W.callWith_KW (h₀ := X.base) I.ok.mod.kin M.mK.kp hall (thn (ha.run pos pins s σ H _ I h) fun us s1 ⟨vs, H1, I1, r, q⟩ => ?_) hpl he
  refine thn (hkw.run pos pins s1 σ H1 _ I1 q) fun ws s2 ⟨zs, H2, I2, rz, q2⟩ => ⟨I2.kIn, ?_⟩
  obtain ⟨l1, l2, q3⟩ := of q2
  rw [hks]
  have q0 := q3 (s2.heap.objs.size + 1) s2.heap.objs.size (I2.hok.fresh (Nat.le_succ _)) (I2.hok.fresh (Nat.le_refl _)) (Nat.ne_of_lt (Nat.lt_succ_self _))
  have I3 := Inv.made (C := He.ga X.K x) I2
  have r1 : Vals (V.ref (s2.heap.objs.size + 1) :: vs) (Value.ref (s2.heap.objs.size + 1) :: us) := .cons rfl r
  have r2 := hb.rel r1 rz
  have n1 : (Value.ref (s2.heap.objs.size + 1) :: us).length = n + 1 := by rw [List.length_cons, ← r.length, l1]
  refine wpAny_call (make_map (f := f) I2.kIn M.mK.makes M.mK.init (beq_iff_eq.mp M.mK.fn) (codeAny_mono (M.fn.run _ X.stack _ _ ⟨Value.ref (s2.heap.objs.size + 1) :: us, ks.zip ws⟩ (g (Value.ref (s2.heap.objs.size + 1) :: us) ws) _ _ (E σ) ((hr.mono hjk).make _ us (ks.zip ws))
    (I3.env0.make _ us (ks.zip ws)) (hb.to _ (Value.ref (s2.heap.objs.size + 1) :: us) ws I3.kIn n1 (rz.length.symm.trans l2)) r2 q0) fun r' s' z => ?_))
  cases r' with
  | error e => exact hx σ pins _ _ e s' I3 z
  | ok fl =>
    cases fl with
    | ret u =>
      obtain ⟨v, H', I4, rv, ev, q3⟩ := I3.after z
      subst ev
      exact ⟨rv, ⟨V.ref (s2.heap.objs.size + 1), H', I4, rfl, q3⟩⟩
    | next => exact False.elim z
    | brk => exact False.elim z
    | cont => exact False.elim z
end
end Z
set_option maxHeartbeats 4000000
namespace K26
open PySem PySem.Spec PyProof.Rows L2 Z
abbrev rps : List Str := ["self", "array", "place", "factor"]
abbrev sps : List Str := ["self", "array", "cell", "constant", "reads", "conditions"]
abbrev lps : List Str := ["self", "low", "high", "statements", "step", "down"]
section
variable (P : Program) (w : World) (K : PySem.W.Frag) (mg : Str → Option Value) (base : Heap)
def MkRd : Prop := ∃ f fd, Mc P w K mg base 7 "Read" f fd rps (spRdI K) ∧ (∃ ds, Vals [.int 1] ds ∧ Binds K fd rps ds) ∧ KBn K fd rps 3 ["factor"] (fun us ws => us ++ ws) (fun vs zs => vs ++ zs)
def MkSt : Prop := ∃ f fd, ∃ r0 g0 : Addr, Mc P w K mg base 5 "Statement" f fd sps (spStI K) ∧ (∃ ds, Vals [.ref r0, .ref g0] ds ∧ Binds K fd sps ds) ∧ KBn K fd sps 4 ["reads", "conditions"] (fun us ws => us ++ ws) (fun vs zs => vs ++ zs) ∧
  (∃ mv, KBn K fd sps 4 ["conditions"] (fun us ws => us ++ (mv ++ ws)) (fun vs zs => vs ++ ([.ref r0] ++ zs))) ∧ ∀ H : Hp, SqT K H r0 [] ∧ SqT K H g0 []
def MkLp : Prop := ∃ f fd, Mc P w K mg base 7 "Loop" f fd lps (spLpI K) ∧ (∃ ds, Vals [.int 1, .bl false] ds ∧ Binds K fd lps ds) ∧ KBn K fd lps 4 ["step", "down"] (fun us ws => us ++ ws) (fun vs zs => vs ++ zs)
def MkPr : Prop := ∃ f fd, Mc P w K mg base 4 "Program" f fd ["self", "loops"] (spPrI K) ∧ Binds K fd ["self", "loops"] []
end
section
variable {P : Program} {w : World} {K : PySem.W.Frag} {mg : Str → Option Value} {base : Heap} {f : Addr} {fd : FuncData}
theorem mk_Rd (F : FunD K "__init__" "Read.__init__" (defArgs iRead__init__) (defBody iRead__init__) (defScope iRead__init__) [] [("factor", .int 1)] f fd) (M : Mc P w K mg base 7 "Read" f fd rps (spRdI K)) : MkRd P w K mg base := by
  obtain ⟨mv, kb⟩ := FunD.kbinds0 (ps := rps) F 3 ["factor"] [] (fun us _ ws => us ++ ws) (by simp) (by simp) (fun r1 _ r2 => r1.append r2)
    (fun D doc pm an cdv ct us mv ws l1 l2 l3 => match us, mv, ws, l1, l2, l3 with | [_, _, _], [], [_], _, _, _ => rfl)
  obtain ⟨ds, v, b⟩ := FunD.binds0 (ps := rps) F 3 (by simp) rfl
    (fun D doc pm an cdv ct us ks l1 l2 => match us, ks, l1, l2 with | [_, _, _], [_], _, _ => ⟨_, _, _, _, _, _, rfl, rfl, rfl⟩)
  exact ⟨f, fd, M, ⟨ds, v, b⟩, kb⟩
theorem mk_St {r0 g0 : Addr} (F : FunD K "__init__" "Statement.__init__" (defArgs iStatement__init__) (defBody iStatement__init__) (defScope iStatement__init__) [] [("reads", .ref r0), ("conditions", .ref g0)] f fd) (M : Mc P w K mg base 5 "Statement" f fd sps (spStI K))
    (h : ∀ H : Hp, SqT K H r0 [] ∧ SqT K H g0 []) : MkSt P w K mg base := by
  obtain ⟨mv, kb⟩ := FunD.kbinds0 (ps := sps) F 4 ["reads", "conditions"] [] (fun us _ ws => us ++ ws) (by simp) (by simp) (fun r1 _ r2 => r1.append r2)
    (fun D doc pm an cdv ct us mv ws l1 l2 l3 => match us, mv, ws, l1, l2, l3 with | [_, _, _, _], [], [_, _], _, _, _ => rfl)
  obtain ⟨mv2, kb2⟩ := FunD.kbinds0 (ps := sps) F 4 ["conditions"] [("reads", .ref r0)] (fun us mz ws => us ++ (mz ++ ws)) (by simp) (by simp) (fun r1 r2 r3 => r1.append (r2.append r3))
    (fun D doc pm an cdv ct us mv ws l1 l2 l3 => match us, mv, ws, l1, l2, l3 with | [_, _, _, _], [_], [_], _, _, _ => ⟨_, _, _, _, _, _, rfl, rfl, rfl⟩)
  obtain ⟨ds, v, b⟩ := FunD.binds0 (ps := sps) F 4 (by simp) rfl
    (fun D doc pm an cdv ct us ks l1 l2 => match us, ks, l1, l2 with | [_, _, _, _], [_, _], _, _ => ⟨_, _, _, _, _, _, rfl, rfl, _, _, _, _, _, _, rfl, rfl, rfl⟩)
  exact ⟨f, fd, r0, g0, M, ⟨ds, v, b⟩, kb, ⟨mv2, kb2⟩, h⟩
theorem mk_Lp (F : FunD K "__init__" "Loop.__init__" (defArgs iLoop__init__) (defBody iLoop__init__) (defScope iLoop__init__) [] [("step", .int 1), ("down", .bl false)] f fd) (M : Mc P w K mg base 7 "Loop" f fd lps (spLpI K)) : MkLp P w K mg base := by
  obtain ⟨mv, kb⟩ := FunD.kbinds0 (ps := lps) F 4 ["step", "down"] [] (fun us _ ws => us ++ ws) (by simp) (by simp) (fun r1 _ r2 => r1.append r2)
    (fun D doc pm an cdv ct us mv ws l1 l2 l3 => match us, mv, ws, l1, l2, l3 with | [_, _, _, _], [], [_, _], _, _, _ => rfl)
  obtain ⟨ds, v, b⟩ := FunD.binds0 (ps := lps) F 4 (by simp) rfl
    (fun D doc pm an cdv ct us ks l1 l2 => match us, ks, l1, l2 with | [_, _, _, _], [_, _], _, _ => ⟨_, _, _, _, _, _, rfl, rfl, _, _, _, _, _, _, rfl, rfl, rfl⟩)
  exact ⟨f, fd, M, ⟨ds, v, b⟩, kb⟩
end
section
variable (K : PySem.W.Frag)
def rRd (ws : List V) (H : Hp) (Q : VK) (E : XK) : Prop := ∃ (x : Str) (v : V) (f a b c d : Int), ws = [.str x, v, .int f] ∧ x.length ≤ 1000 ∧ PlV K H v a b c d ∧ Out (ckRead x f a b c d) (Rz K H E) (∀ p H', Same H H' → RdAt K H' p x a b c d f → Q (.ref p) H')
def rSt (ws : List V) (H : Hp) (Q : VK) (E : XK) : Prop := ∃ (x : Str) (v : V) (k : Int) (lr lc : Addr) (rs cs : List V) (cc : List (Int × Int × Int)) (a b c : Int), ws = [.str x, v, .int k, .ref lr, .ref lc] ∧ x.length ≤ 1000 ∧ SumV K H v a b c ∧
  SqA K H lr rs ∧ SqA K H lc cs ∧ Cnds K H cs cc ∧ Out (ckStm rs.length cs.length x cc a b c k) (Rz K H E) (∀ p H', Same H H' → StmAt K H' p x a b c k rs cs → Q (.ref p) H')
def rLp (ws : List V) (H : Hp) (Q : VK) (E : XK) : Prop := ∃ (v1 v2 : V) (l : Addr) (xs : List V) (t u : P4) (S : Int) (dn : Bool), ws = [v1, v2, .ref l, .int S, .bl dn] ∧ PlV K H v1 t.1 t.2.1 t.2.2.1 t.2.2.2 ∧ PlV K H v2 u.1 u.2.1 u.2.2.1 u.2.2.2 ∧ SqA K H l xs ∧
  Out (ckLp xs.length S t u) (Rz K H E) (∀ p H', Same H H' → LpAt K H' p t u S dn xs → Q (.ref p) H')
def PrAt (H : Hp) (p : Addr) (xs : List V) (ys : List Str) : Prop := ∃ dx l a d, H p = some (.ins (CPr K) dx (prf l a d)) ∧ SqT K H l xs ∧ SqT K H a (ys.map V.str)
def rPr (ws : List V) (H : Hp) (Q : VK) (E : XK) : Prop := ∃ (l : Addr) (xs : List V) (ms : List (List Str)), ws = [.ref l] ∧ SqA K H l xs ∧ LpNs K H xs ms ∧ ms.flatten.length ≤ 4000 ∧
  Out (ckM "loops" xs.length 6) (Rz K H E) (∀ p ys H', Same H H' → PrAt K H' p xs ys → ys.Nodup → (∀ x, x ∈ ys ↔ x ∈ ms.flatten) → sortedS ys = true → Q (.ref p) H')
end
section
variable {K : PySem.W.Frag} {H : Hp} {Q : VK} {E : XK} {p dx C : Addr}
theorem new_same (np : H p = none) (nd : H dx = none) (ne : dx ≠ p) : Same H (upd (upd H dx (.own p)) p (.ins C dx [])) := Same.new _ (Same.new _ (Same.refl H) nd) (by rw [upd_ne (Ne.symm ne)]; exact np)
theorem rz_new {e : Er} (np : H p = none) (nd : H dx = none) (h : Rz K H E e) : RzK K p (upd (upd H dx (.own p)) p (.ins C dx [])) E e := fun d H' k hd => h d H' (Same.made (Same.refl H) np nd k) hd
theorem rRd_of {ws : List V} (h : rRd K ws H Q E) (np : H p = none) (nd : H dx = none) (ne : dx ≠ p) : spRdI K (.ref p :: ws) (upd (upd H dx (.own p)) p (.ins (CRd K) dx [])) (fun v H2 => v = .non ∧ Q (.ref p) H2) E := by
  obtain ⟨x, v, f, a, b, c, d, rfl, hx, hv, k⟩ := h
  exact ⟨p, dx, x, v, f, a, b, c, d, rfl, upd_same, hx, hv.same (new_same np nd ne), Out.end_ k (fun e z => rz_new np nd z) fun k q H' hp hq kp => ⟨rfl, k p H' (Same.made (Same.refl H) np nd kp) ⟨dx, q, hp, hq⟩⟩⟩
theorem rSt_of {ws : List V} (h : rSt K ws H Q E) (np : H p = none) (nd : H dx = none) (ne : dx ≠ p) : spStI K (.ref p :: ws) (upd (upd H dx (.own p)) p (.ins (CSt K) dx [])) (fun v H2 => v = .non ∧ Q (.ref p) H2) E := by
  obtain ⟨x, v, k, lr, lc, rs, cs, cc, a, b, c, rfl, hx, hv, h1, h2, h3, kk⟩ := h
  have s := new_same (C := CSt K) np nd ne
  exact ⟨p, dx, x, v, k, lr, lc, rs, cs, cc, a, b, c, rfl, upd_same, hx, hv.same s, SqA.same h1 s, SqA.same h2 s, h3.same s, Out.end_ kk (fun e z => rz_new np nd z) fun kk q r g H' hp hq hr hg kp => ⟨rfl, kk p H' (Same.made (Same.refl H) np nd kp) ⟨dx, q, r, g, hp, hq, hr, hg⟩⟩⟩
theorem rLp_of {ws : List V} (h : rLp K ws H Q E) (np : H p = none) (nd : H dx = none) (ne : dx ≠ p) : spLpI K (.ref p :: ws) (upd (upd H dx (.own p)) p (.ins (CL K) dx [])) (fun v H2 => v = .non ∧ Q (.ref p) H2) E := by
  obtain ⟨v1, v2, l, xs, t, u, S, dn, rfl, h1, h2, h3, kk⟩ := h
  have s := new_same (C := CL K) np nd ne
  exact ⟨p, dx, v1, v2, l, xs, t, u, S, dn, rfl, upd_same, h1.same s, h2.same s, SqA.same h3 s, Out.end_ kk (fun e z => rz_new np nd z) fun kk lo hi st H' hp hq hr hg kp => ⟨rfl, kk p H' (Same.made (Same.refl H) np nd kp) ⟨dx, lo, hi, st, hp, hq, hr, hg⟩⟩⟩
theorem rPr_of {ws : List V} (h : rPr K ws H Q E) (np : H p = none) (nd : H dx = none) (ne : dx ≠ p) : spPrI K (.ref p :: ws) (upd (upd H dx (.own p)) p (.ins (CPr K) dx [])) (fun v H2 => v = .non ∧ Q (.ref p) H2) E := by
  obtain ⟨l, xs, ms, rfl, h1, h2, few, kk⟩ := h
  have s := new_same (C := CPr K) np nd ne
  exact ⟨p, dx, l, xs, ms, rfl, upd_same, SqA.same h1 s, h2.same s, few, Out.end_ kk (fun e z => rz_new np nd z) fun kk lt at_ dt ys H' hp h3 h4 h5 h6 h7 kp => ⟨rfl, kk p ys H' (Same.made (Same.refl H) np nd kp) ⟨dx, lt, at_, dt, hp, h3, h4⟩ h5 h6 h7⟩⟩
end
section
variable {X : Cx} {K : PySem.W.Frag} {k : Nat} {E : L2.St → XK} {p pos : Pos} {e : Expr} {es : List Expr} {kws : List Keyword} {t tk : TA}
def tRdK (K : PySem.W.Frag) (t tk : TA) (E : L2.St → XK) : TE := fun σ H Q => t σ H fun vs H1 => tk σ H1 fun zs H2 => vs.length = 2 ∧ zs.length = 1 ∧ rRd K (vs ++ zs) H2 Q (E σ)
theorem pe_RdK (M : MkRd X.prog X.w K X.mg X.base) (hK : X.K = K) (hr : Room k X.A) (hx : ∀ σ, PassesAt (L2.CX X.prog X.w) X σ (E σ)) (ha : PA X (e :: es) t) (hkw : PK X kws tk) (hjk : 8 ≤ k := by decide) (hg : Gl X "Read" := by rfl) (hall : (backToKw pos (keywordEach kws X.env)).all (·.1.isSome) = true := by rfl) (hks : (backToKw pos (keywordEach kws X.env)).filterMap (·.1) = (["factor"] : List Str) := by rfl)
    (he : starEach (e :: es) X.env = (false, eval e X.env) :: starEach es X.env := by rfl) (hpl : ((backTo pos (starEach (e :: es) X.env)).any (·.1) || (backToKw pos (keywordEach kws X.env)).any (·.1.isNone)) = false := by rfl) :
    PE X (.Call (.Name "Read" p) (e :: es) kws pos) (tRdK K t tk E) := by
  obtain ⟨f, fd, M, _, kb⟩ := M
  exact pe_mkRK (n := 2) (R := fun vs zs H2 Q E => vs.length = 2 ∧ zs.length = 1 ∧ rRd K (vs ++ zs) H2 Q E) M hK kb (fun q => ⟨q.1, q.2.1, fun y dx ny nd ne => rRd_of q.2.2 ny nd ne⟩) hr hx ha hkw hjk hg hall hks (by decide) he hpl
theorem pe_StK2 (M : MkSt X.prog X.w K X.mg X.base) (hK : X.K = K) (hr : Room k X.A) (hx : ∀ σ, PassesAt (L2.CX X.prog X.w) X σ (E σ)) (ha : PA X (e :: es) t) (hkw : PK X kws tk) (hjk : 6 ≤ k := by decide) (hg : Gl X "Statement" := by rfl) (hall : (backToKw pos (keywordEach kws X.env)).all (·.1.isSome) = true := by rfl) (hks : (backToKw pos (keywordEach kws X.env)).filterMap (·.1) = (["reads", "conditions"] : List Str) := by rfl)
    (he : starEach (e :: es) X.env = (false, eval e X.env) :: starEach es X.env := by rfl) (hpl : ((backTo pos (starEach (e :: es) X.env)).any (·.1) || (backToKw pos (keywordEach kws X.env)).any (·.1.isNone)) = false := by rfl) :
    PE X (.Call (.Name "Statement" p) (e :: es) kws pos) (fun σ H Q => t σ H fun vs H1 => tk σ H1 fun zs H2 => vs.length = 3 ∧ zs.length = 2 ∧ rSt K (vs ++ zs) H2 Q (E σ)) := by
  obtain ⟨f, fd, r0, g0, M, _, kb, _⟩ := M
  exact pe_mkRK (n := 3) (R := fun vs zs H2 Q E => vs.length = 3 ∧ zs.length = 2 ∧ rSt K (vs ++ zs) H2 Q E) M hK kb (fun q => ⟨q.1, q.2.1, fun y dx ny nd ne => rSt_of q.2.2 ny nd ne⟩) hr hx ha hkw hjk hg hall hks (by decide) he hpl
theorem pe_LpK (M : MkLp X.prog X.w K X.mg X.base) (hK : X.K = K) (hr : Room k X.A) (hx : ∀ σ, PassesAt (L2.CX X.prog X.w) X σ (E σ)) (ha : PA X (e :: es) t) (hkw : PK X kws tk) (hjk : 8 ≤ k := by decide) (hg : Gl X "Loop" := by rfl) (hall : (backToKw pos (keywordEach kws X.env)).all (·.1.isSome) = true := by rfl) (hks : (backToKw pos (keywordEach kws X.env)).filterMap (·.1) = (["step", "down"] : List Str) := by rfl)
    (he : starEach (e :: es) X.env = (false, eval e X.env) :: starEach es X.env := by rfl) (hpl : ((backTo pos (starEach (e :: es) X.env)).any (·.1) || (backToKw pos (keywordEach kws X.env)).any (·.1.isNone)) = false := by rfl) :
    PE X (.Call (.Name "Loop" p) (e :: es) kws pos) (fun σ H Q => t σ H fun vs H1 => tk σ H1 fun zs H2 => vs.length = 3 ∧ zs.length = 2 ∧ rLp K (vs ++ zs) H2 Q (E σ)) := by
  obtain ⟨f, fd, M, _, kb⟩ := M
  exact pe_mkRK (n := 3) (R := fun vs zs H2 Q E => vs.length = 3 ∧ zs.length = 2 ∧ rLp K (vs ++ zs) H2 Q E) M hK kb (fun q => ⟨q.1, q.2.1, fun y dx ny nd ne => rLp_of q.2.2 ny nd ne⟩) hr hx ha hkw hjk hg hall hks (by decide) he hpl
theorem pe_PrP (M : MkPr X.prog X.w K X.mg X.base) (hK : X.K = K) (hr : Room k X.A) (hx : ∀ σ, PassesAt (L2.CX X.prog X.w) X σ (E σ)) (ha : PA X (e :: es) t) (hjk : 5 ≤ k := by decide) (hg : Gl X "Program" := by rfl) (he : starEach (e :: es) X.env = (false, eval e X.env) :: starEach es X.env := by rfl) (hpl : (backTo pos (starEach es X.env)).any (·.1) = false := by rfl) :
    PE X (.Call (.Name "Program" p) (e :: es) [] pos) (fun σ H Q => t σ H fun vs H1 => rPr K vs H1 Q (E σ)) := by
  obtain ⟨f, fd, M, b⟩ := M
  exact pe_mkR (R := fun vs H1 Q E => rPr K vs H1 Q E) M hK b .nil (fun q nx nd ne => by rw [List.append_nil]; exact rPr_of q nx nd ne) hr hx ha hjk hg (by decide) he hpl
end
end K26
set_option maxHeartbeats 4000000
namespace Z
open PySem PySem.Spec PyProof.Rows L2
mutual
inductive DT (H : Hp) : V → PyData → Prop
  | non : DT H .non .none
  | bl (b : Bool) : DT H (.bl b) (.bool b)
  | int (i : Int) : DT H (.int i) (.int i)
  | str (x : Str) : DT H (.str x) (.str x)
  | tup {a : Addr} {xs : List V} {ds : List PyData} : H a = some (.tup xs) → DTs H xs ds → DT H (.ref a) (.tuple ds)
inductive DTs (H : Hp) : List V → List PyData → Prop
  | nil : DTs H [] []
  | cons {v : V} {vs : List V} {d : PyData} {ds : List PyData} : DT H v d → DTs H vs ds → DTs H (v :: vs) (d :: ds)
end
/-- tuples stand -/
def TSame (H H' : Hp) : Prop := ∀ a xs, H a = some (.tup xs) → H' a = some (.tup xs)
section
variable {H H1 H2 H' : Hp} {D p : Addr} {o u : HO}
theorem TSame.refl (H : Hp) : TSame H H := fun _ _ e => e
theorem TSame.trans (a : TSame H H1) (b : TSame H1 H2) : TSame H H2 := fun c xs e => b c xs (a c xs e)
theorem TSame.of (s : Same H H') : TSame H H' := fun a xs e => s a _ e
theorem TSame.keepO (e : H p = some o) (n : ∀ xs, o ≠ .tup xs) (k : Keep p H H') : TSame H H' := fun a xs ea => k a _ (fun z => by
  rw [z, e] at ea
  exact n xs (Option.some.inj ea)) ea
theorem TSame.keep {t : Nat} (h : Pen H p t) (k : Keep p H H') : TSame H H' := by
  obtain ⟨c, ns, a, l, e, _⟩ := h
  exact TSame.keepO e (fun _ z => by cases z) k
theorem TSame.updO (e : H D = some o) (n : ∀ xs, o ≠ .tup xs) : TSame H (upd H D u) := TSame.keepO e n fun b w nb eb => by
  rw [upd_ne nb]
  exact eb
theorem TSame.updL {xs : List V} (e : H D = some (.lst xs)) : TSame H (upd H D u) := TSame.updO e fun _ z => by cases z
theorem TSame.updT {kvs : List (List Key × V)} (e : H D = some (.dT kvs)) : TSame H (upd H D u) := TSame.updO e fun _ z => by cases z
theorem TSame.new (n : H D = none) : TSame H (upd H D u) := TSame.of (Same.new _ (Same.refl H) n)
end
mutual
theorem DT.mono {H H' : Hp} (s : TSame H H') : ∀ (d : PyData) {v : V}, DT H v d → DT H' v d
  | .none, _, h => by cases h; exact .non
  | .bool b, _, h => by cases h; exact .bl b
  | .int i, _, h => by cases h; exact .int i
  | .str x, _, h => by cases h; exact .str x
  | .list ds, _, h => by cases h
  | .tuple ds, _, h => by
    cases h with
    | tup e r => exact .tup (s _ _ e) (DTs.mono s ds r)
  | .dict _, _, h => by cases h
theorem DTs.mono {H H' : Hp} (s : TSame H H') : ∀ (ds : List PyData) {vs : List V}, DTs H vs ds → DTs H' vs ds
  | [], _, h => by cases h; exact .nil
  | d :: ds, _, h => by
    cases h with
    | cons a b => exact .cons (DT.mono s d a) (DTs.mono s ds b)
end
mutual
theorem DT.dp {K : PySem.W.Frag} {H : Hp} : ∀ (d : PyData) {v : V}, DT H v d → Dp K H v d
  | .none, _, h => by cases h; exact .non
  | .bool b, _, h => by cases h; exact .bl b
  | .int i, _, h => by cases h; exact .int i
  | .str x, _, h => by cases h; exact .str x
  | .list ds, _, h => by cases h
  | .tuple ds, _, h => by
    cases h with
    | tup e r => exact .tup (SqT.of e) (DTs.dp ds r)
  | .dict _, _, h => by cases h
theorem DTs.dp {K : PySem.W.Frag} {H : Hp} : ∀ (ds : List PyData) {vs : List V}, DTs H vs ds → DpAll K H vs ds
  | [], _, h => by cases h; exact .nil
  | d :: ds, _, h => by
    cases h with
    | cons a b => exact .cons (DT.dp d a) (DTs.dp ds b)
end
section
variable {H H' : Hp} {v : V} {vs : List V}
theorem DT.to {d : PyData} (h : DT H v d) (s : TSame H H') : DT H' v d := DT.mono s d h
theorem DTs.to {ds : List PyData} (h : DTs H vs ds) (s : TSame H H') : DTs H' vs ds := DTs.mono s ds h
theorem DT.same {d : PyData} (h : DT H v d) (s : Same H H') (_ : PyData := .none) : DT H' v d := h.to (.of s)
theorem DT.keep {p : Addr} {t : Nat} {d : PyData} (h : DT H v d) (hp : Pen H p t) (k : Keep p H H') : DT H' v d := h.to (.keep hp k)
theorem DTs.keep {p : Addr} {t : Nat} {ds : List PyData} (h : DTs H vs ds) (hp : Pen H p t) (k : Keep p H H') : DTs H' vs ds := h.to (.keep hp k)
theorem DTs.len : ∀ {ds : List PyData} {vs : List V}, DTs H vs ds → vs.length = ds.length
  | [], _, h => by cases h; rfl
  | d :: ds, _, h => by
    cases h with
    | cons a b => rw [List.length_cons, List.length_cons, DTs.len b]
theorem DTs.get : ∀ {ds : List PyData} {ws : List V} (i : Nat) (d : PyData), DTs H ws ds → ds[i]? = some d → ∃ v, ws[i]? = some v ∧ DT H v d
  | [], _, _, _, _, e => by cases e
  | _ :: _, _, 0, d', h, e => by
    cases h with
    | cons a b =>
      cases (Option.some.inj e)
      exact ⟨_, rfl, a⟩
  | _ :: ds, _, i + 1, d', h, e => by
    cases h with
    | cons a b => exact DTs.get i d' b (show ds[i]? = some d' from e)
theorem DTs.get' {ds : List PyData} {ws : List V} {i : Nat} {v : V} (h : DTs H ws ds) (e : ws[i]? = some v) : ∃ d, ds[i]? = some d ∧ DT H v d := by
  have hi : i < ds.length := by
    rw [← h.len]
    exact (List.getElem?_eq_some_iff.mp e).1
  obtain ⟨u, e2, k⟩ := DTs.get i _ h (List.getElem?_eq_getElem hi)
  rw [e] at e2
  cases e2
  exact ⟨_, List.getElem?_eq_getElem hi, k⟩
/-- the items are made from a list -/
theorem DTs.map' {α : Type} {f : α → PyData} {as : List α} {ws : List V} {i : Nat} {v : V} (h : DTs H ws (as.map f)) (e : ws[i]? = some v) : ∃ a, as[i]? = some a ∧ DT H v (f a) := by
  obtain ⟨d, hd, k⟩ := h.get' e
  rw [List.getElem?_map] at hd
  obtain ⟨a, ha, rfl⟩ := Option.map_eq_some_iff.mp hd
  exact ⟨a, ha, k⟩
theorem DTs.app : ∀ {ds es : List PyData} {vs ws : List V}, DTs H vs ds → DTs H ws es → DTs H (vs ++ ws) (ds ++ es)
  | [], _, _, _, h, k => by cases h; exact k
  | d :: ds, _, _, _, h, k => by
    cases h with
    | cons a b => exact .cons a (DTs.app b k)
theorem DTs.one {d : PyData} (h : DT H v d) : DTs H [v] [d] := .cons h .nil
theorem DTs.snoc {α : Type} {f : α → PyData} {as : List α} {a : α} (h : DTs H vs (as.map f)) (k : DT H v (f a)) : DTs H (vs ++ [v]) ((as ++ [a]).map f) := by
  rw [List.map_append]
  exact h.app (.one k)
theorem DT.tup' {ds : List PyData} (h : DT H v (.tuple ds)) : ∃ a xs, v = .ref a ∧ H a = some (.tup xs) ∧ DTs H xs ds := by
  cases h with
  | tup e r => exact ⟨_, _, rfl, e, r⟩
end
def imm : HO → Bool
  | .tup _ => true
  | .ins _ _ _ => true
  | .frz _ (.tup _) => true
  | _ => false
def MS (H H' : Hp) : Prop := ∀ a u, H a = some u → imm u = true → H' a = some u
section
variable {H H1 H2 H' : Hp} {D p : Addr} {o u : HO}
theorem MS.refl (H : Hp) : MS H H := fun _ _ e _ => e
theorem MS.trans (a : MS H H1) (b : MS H1 H2) : MS H H2 := fun c u e i => b c u (a c u e i) i
theorem MS.of (s : Same H H') : MS H H' := fun a u e _ => s a u e
theorem MS.t (s : MS H H') : TSame H H' := fun a xs e => s a _ e rfl
theorem MS.keepO (e : H p = some o) (n : imm o = false) (k : Keep p H H') : MS H H' := fun a w ea i => k a w (fun z => by
  rw [z, e] at ea
  cases ea
  rw [n] at i
  cases i) ea
theorem MS.keep {t : Nat} (h : Pen H p t) (k : Keep p H H') : MS H H' := by
  obtain ⟨c, ns, a, l, e, _⟩ := h
  exact MS.keepO e rfl k
theorem MS.updO (e : H D = some o) (n : imm o = false) : MS H (upd H D u) := MS.keepO e n fun b w nb eb => by
  rw [upd_ne nb]
  exact eb
theorem MS.updL {xs : List V} (e : H D = some (.lst xs)) : MS H (upd H D u) := MS.updO e rfl
theorem MS.updT {kvs : List (List Key × V)} (e : H D = some (.dT kvs)) : MS H (upd H D u) := MS.updO e rfl
theorem MS.new (n : H D = none) : MS H (upd H D u) := MS.of (Same.new _ (Same.refl H) n)
theorem MS.sqT {K : PySem.W.Frag} {a : Addr} {xs : List V} (s : MS H H') (h : SqT K H a xs) : SqT K H' a xs := h.imp (fun r => r.imp (fun e => s _ _ e rfl) fun ⟨o, e⟩ => ⟨o, s _ _ e rfl⟩) id
end
theorem dt3 {H : Hp} {t : Addr} {a b c : Int} (h : H t = some (.tup [.int a, .int b, .int c])) : DT H (.ref t) (.tuple [.int a, .int b, .int c]) := .tup h (.cons (.int _) (.cons (.int _) (.cons (.int _) .nil)))
theorem dt3' {H : Hp} {v : V} {a b c : Int} (h : DT H v (.tuple [.int a, .int b, .int c])) : ∃ t, v = .ref t ∧ H t = some (.tup [.int a, .int b, .int c]) := by
  cases h with
  | tup e r =>
    cases r with
    | cons r1 r =>
      cases r with
      | cons r2 r =>
        cases r with
        | cons r3 r =>
          cases r
          cases r1
          cases r2
          cases r3
          exact ⟨_, rfl, e⟩
theorem dt4' {H : Hp} {v : V} {a b c d : Int} (h : DT H v (.tuple [.int a, .int b, .int c, .int d])) : ∃ t, v = .ref t ∧ H t = some (.tup [.int a, .int b, .int c, .int d]) := by
  cases h with
  | tup e r =>
    cases r with
    | cons r1 r =>
      cases r with
      | cons r2 r =>
        cases r with
        | cons r3 r =>
          cases r with
          | cons r4 r =>
            cases r
            cases r1
            cases r2
            cases r3
            cases r4
            exact ⟨_, rfl, e⟩
end Z
set_option maxHeartbeats 4000000
namespace Z
open PySem PySem.Spec PyProof.Rows L2
open Sem (wp)
open AutoSeq1 (wpAny_loadPart')
/-- the tuple's iterator, and the enumerate behind it -/
abbrev tupIt (l : Addr) : Obj := { cls := .type "tuple_iterator", data := .fields #[.ref l, .int 0 0] }
abbrev enuOb (N : Addr) : Obj := { cls := .type "enumerate", data := .fields #[.none, .bool false, .ref N, rawInt 0, .none, .none] }
abbrev enuHeap (h : Heap) (l : Addr) : Heap := (h.push (tupIt l)).push (enuOb h.objs.size)
section
variable {h : Heap} {l : Addr}
theorem enu_old {b : Addr} {o : Obj} (e : h.get? b = some o) : (enuHeap h l).get? b = some o := Heap.get?_push_of_some _ (Heap.get?_push_of_some _ e)
theorem enu_it : (enuHeap h l).IsTupleIter h.objs.size l 0 := ⟨tupIt l, Heap.get?_push_of_some _ (Heap.get?_push_size h rfl), rfl, rfl⟩
theorem enu_en : IsEnum (enuHeap h l) (h.objs.size + 1) h.objs.size 0 .none := by
  have z := Heap.get?_push_size (h.push (tupIt l)) (o := enuOb h.objs.size) rfl
  rwa [Heap.size_push] at z
end
theorem new_enu {l : Addr} {its : Array Value} {n : Nat} {dd : Option Addr} {sl : Array (Option Value)} :
    Meets (Builtin.«enumerate.__new__» ⟨[.type "enumerate", .ref l], []⟩) fun _ R s => s.heap.get? l = some ⟨.type "tuple", dd, .seq its n, sl⟩ ∧ R (.ok (.ret (.ref (s.heap.push (tupIt l)).objs.size))) { s with heap := enuHeap s.heap l } := by
  refine .of_wp fun prog w A R s z => ?_
  cases s with
  | mk hp g d tk os =>
    have there := z.1
    have isT : Heap.IsTuple (Shared.heap ⟨hp, g, d, tk, os⟩) l its := ⟨_, there, rfl, n, rfl⟩
    have sub := sub_enumerate
    wp_walk using wpAny_loadPart' there
    refine wpAny_stack_any fun st => wpAny_pure ?_
    split
    case h_1 c _ _ _ _ _ => cases (c == Value.type "enumerate") <;> (wp_walk using wpAny_loadPart' there, wpAny_pyIter_tuple isT; exact ⟨_, rfl, z.2⟩)
    case h_2 => wp_walk using wpAny_loadPart' there, wpAny_pyIter_tuple isT; exact ⟨_, rfl, z.2⟩
theorem call_enu {prog : PySem.Program} {w : World} {A : Around} {E : Value → Shared → Prop} {s : Shared} {l : Addr} {its : Array Value} {Q : Value → Shared → Prop} (isT : s.heap.IsTuple l its) (k : Q (.ref (s.heap.objs.size + 1)) { s with heap := enuHeap s.heap l }) :
    wpAny (model prog w) A (call (.type "enumerate") [.ref l]) Q E s := by
  obtain ⟨⟨oc, od, dt, sl⟩, there, cls, n, dat⟩ := isT
  cases (show oc = .type "tuple" from cls)
  cases (show dt = .seq its n from dat)
  refine callType_new F.called_enumerate (by decide) (F.typeCall_enumerate_1 _) (F.newCall_enumerate_1 _) (fun obj => F.args_object_init_2 obj _) F.entry_enumerate_new new_enu ⟨there, ?_⟩
  have N : (s.heap.push (tupIt l)).objs.size = s.heap.objs.size + 1 := Heap.size_push ..
  show _ ∧ _
  rw [N]
  exact ⟨⟨_, enu_en, rfl⟩, k⟩
/-- the tuple at a, each item in a new pair -/
def Iet (K : PySem.W.Frag) (a : Addr) : It where
  go i H := ∃ (xs : List V) (x : V), SqT K H a xs ∧ xs[i]? = some x
  yld i H v H' := ∃ T x, v = .ref T ∧ H T = none ∧ H' = upd H T (.tup [.int (i : Nat), x]) ∧ ∀ xs, SqT K H a xs → xs[i]? = some x
  stop i H := ∃ xs : List V, SqT K H a xs ∧ xs.length = i
/-- how the two stand ahead of turn i -/
def EnAt (a e it : Addr) (i : Nat) (h : Heap) : Prop := (∃ old, IsEnum h e it (i : Int) old) ∧ h.IsTupleIter it a i ∧ e ≠ it
section
variable {a e it : Addr} {i : Nat} {h h' : Heap}
theorem EnAt.objs (z : EnAt a e it i h) : (∃ o, h.get? e = some o ∧ ∀ v, o.data ≠ .cell v) ∧ ∃ o, h.get? it = some o ∧ ∀ v, o.data ≠ .cell v := by
  obtain ⟨⟨old, z1⟩, ⟨o, z2, _, z3⟩, _⟩ := z
  exact ⟨⟨_, z1, fun v y => Data.noConfusion y⟩, o, z2, fun v y => Data.noConfusion (z3.symm.trans y)⟩
theorem EnAt.move (z : EnAt a e it i h) (k : ∀ b, b = e ∨ b = it → ∀ o, h.get? b = some o → h'.get? b = some o) : EnAt a e it i h' := by
  obtain ⟨⟨old, z1⟩, z2, z3⟩ := z
  exact ⟨⟨old, k e (.inl rfl) _ z1⟩, z2.at (k it (.inr rfl)), z3⟩
/-- a tuple is neither of the two -/
theorem EnAt.other {its : Array Value} (z : EnAt a e it i h) (isT : h.IsTuple a its) : a ≠ e ∧ a ≠ it := by
  obtain ⟨⟨old, z1⟩, ⟨o, z2, z3, _⟩, _⟩ := z
  obtain ⟨u, y1, y2, _⟩ := isT
  refine ⟨fun eq => ?_, fun eq => ?_⟩
  · subst eq
    rw [z1] at y1
    cases y1
    exact absurd (Value.type.inj y2) (by decide)
  · subst eq
    rw [z2] at y1
    cases y1
    exact absurd (Value.type.inj (z3.symm.trans y2)) (by decide)
end
theorem two_mem {b e it : Addr} (h : b ∈ [e, it]) : b = e ∨ b = it := by simpa using h
theorem turn_enu {P : Program} {w : World} {K : PySem.W.Frag} {elts : List Expr} {kk : Nat} {tpos : Pos} (a e it : Addr) : Turn P w K (.Tuple elts kk tpos) (Iet K a) [e, it] e (EnAt a e it) := by
  refine ⟨List.mem_cons_self, fun i h z b hb => ?_, fun i h h' z k => z.move fun b hb o q => k b (by rcases hb with rfl | rfl <;> simp) o q, ?_, ?_, fun A i s Q E z q => ?_⟩
  · rcases two_mem hb with rfl | rfl
    · exact z.objs.1
    · exact z.objs.2
  · rintro X rfl rfl rfl hc i pins s σ H E I aside z ⟨xs, x, hq, hx⟩
    obtain ⟨its, rv, isT, _⟩ := I.tuple hq
    have isT : s.heap.IsTuple a its.toArray := isT
    obtain ⟨u, hu, ru⟩ := rv.get hx
    obtain ⟨na, nt⟩ := z.other isT
    obtain ⟨⟨old, isE⟩, isI, net⟩ := id z
    have old_e := Heap.lt_size isE
    have old_it : it < s.heap.objs.size := by
      obtain ⟨o, q, _⟩ := isI
      exact Heap.lt_size q
    have drawn := Draws.tuple (prog := X.prog) (w := X.w) (A := X.A.in1) (show X.A.in1.handled = none from I.ok.hd hc) it a nt its.toArray
    have few : i < its.toArray.size := by simpa using (List.getElem?_eq_some_iff.mp hu).1
    refine wpAny_pyNext_enum_itemD drawn isE ⟨isI, isT⟩ few net (fun y => ?_) fun y h1 tk hy out st1 new1 _ kept1 => ?_
    · rcases (show e = it ∨ e = a by simpa using y) with y | y
      · exact net y
      · exact na y.symm
    obtain rfl : y = u := by
      have hy : its.toArray[i]? = some y := hy
      rw [List.getElem?_toArray, hu] at hy
      exact (Option.some.inj hy).symm
    refine ⟨_, rfl, wpAny_letOwnedTupleGo_enum (s := { s with heap := h1, toks := tk + 1 }) out fun h2 isE2 same2 => ?_⟩
    have pair : h2.get? s.heap.objs.size = some { cls := .type "tuple", data := .seq #[.int i tk, y] } := by rw [same2.2 _ (Nat.ne_of_gt old_e)]; exact new1
    have I2 : Inv X pins σ (upd H s.heap.objs.size (.tup [.int (i : Nat), x])) { s with heap := h2, toks := tk + 1 } := by
      refine I.turnedNew (ch := [e, it]) (fun b o nb q => ?_) aside (Nat.le_refl _) ⟨by show 2 ≤ sizeLine; decide, _, .cons ⟨tk, rfl⟩ (.cons ru .nil), _, pair, rfl, _, rfl⟩
      have n1 : b ≠ e := fun y => nb (by rw [y]; exact List.mem_cons_self)
      have n2 : b ≠ it := fun y => nb (by rw [y]; exact List.mem_cons_of_mem _ List.mem_cons_self)
      rw [same2.2 b n1]
      exact kept1 b o n1 n2 q
    refine ⟨.ref s.heap.objs.size, _, I2, rfl, ⟨_, x, rfl, I.hok.fresh (Nat.le_refl _), rfl, fun ys hy => I.tuple_inj hy hq ▸ hx⟩, ⟨⟨y, ?_⟩, st1.1.at fun o q => by rw [same2.2 it net.symm]; exact q, net⟩, fun b hb => ?_⟩
    · rw [Int.natCast_add, Int.natCast_one]
      exact isE2
    · have lt : b < s.heap.objs.size := by
        rcases two_mem hb with rfl | rfl
        · exact old_e
        · exact old_it
      rw [upd_ne (Nat.ne_of_lt lt)]
      exact (aside b hb).1
  · rintro X rfl rfl rfl hc i pins s σ H E I aside z ⟨xs, hq, hx⟩
    obtain ⟨its, rv, isT, _⟩ := I.tuple hq
    have isT : s.heap.IsTuple a its.toArray := isT
    have nt := (z.other isT).2
    obtain ⟨⟨old, isE⟩, isI, _⟩ := z
    have len := rv.length
    have end_ : its.toArray.size = i := by rw [List.size_toArray]; omega
    have drawn := Draws.tuple (prog := X.prog) (w := X.w) (A := X.A.in1) (show X.A.in1.handled = none from I.ok.hd hc) it a nt its.toArray
    rw [end_] at drawn
    obtain ⟨free, nl, nf, mine, cells, pinned⟩ := aside it (List.mem_cons_of_mem _ List.mem_cons_self)
    exact wpAny_pyNext_enum_endD drawn isE ⟨isI, isT⟩ fun h1 ext => ⟨rfl, I.turned (t' := s.toks) (fun b o nb q => ext b o nb q) free nl mine cells pinned⟩
  · obtain ⟨⟨old, isE⟩, _⟩ := z
    exact wpAny_pyIter_enum isE q
def iEnumT (K : PySem.W.Frag) (ta : TA) : TI := fun σ H R => ta σ H fun vs H1 => ∃ a xs, vs = [.ref a] ∧ SqT K H1 a xs ∧ R (Iet K a) H1
theorem pi_enumT {X : Cx} {e : Expr} {ta : TA} {p pos tpos : Pos} {elts : List Expr} {kk : Nat} (hg : Gl X "enumerate") (hm : X.mg "enumerate" = none) (ha : PA X [e] ta) (hs : starEach [e] X.env = [(false, eval e X.env)] := by rfl) :
    PI X (.Tuple elts kk tpos) (.Call (.Name "enumerate" p) [e] [] pos) (iEnumT X.K ta) where
  run pins s σ H R I h := by
    refine Call_ (ld_blt I hg hm boot_enumerate (PyProof.Rows.callWith_type1 (thn (ha.run pos pins s σ H _ I h) fun us s1 got => ?_) hs rfl))
    obtain ⟨vs, H1, I1, rel, a, xs, rfl, hq, q⟩ := got
    match us, rel with
    | [_], .cons rel .nil =>
      cases rel
      obtain ⟨its, _, isT, _⟩ := I1.tuple hq
      refine call_enu (show s1.heap.IsTuple a its.toArray from isT) (wpAny_pyIter_enum enu_en ?_)
      have I2 : Inv X pins σ H1 { s1 with heap := enuHeap s1.heap a } := I1.kept (t' := s1.toks) fun b o e => enu_old e
      refine ⟨_, [s1.heap.objs.size + 1, s1.heap.objs.size], _, _, H1, rfl, I2, turn_enu a _ s1.heap.objs.size, ⟨⟨_, enu_en⟩, enu_it, Nat.succ_ne_self _⟩, fun b hb => ?_, q⟩
      have ge : s1.heap.objs.size ≤ b := by
        rcases two_mem hb with rfl | rfl
        · exact Nat.le_succ _
        · exact Nat.le_refl _
      exact I1.fpOk ge (I1.hok.fresh ge)
theorem walk_enumT {K : PySem.W.Frag} {a : Addr} {xs : List V} : Walk (Iet K a) xs.length (fun H => SqT K H a xs) (YPair (fun i => some (.int (i : Nat))) (fun i => xs[i]?)) where
  goes i H lt q := ⟨xs, xs[i], q, List.getElem?_eq_getElem lt⟩
  stops H q := ⟨xs, q, rfl⟩
  yields i H v H' _ q := fun ⟨T, x, e1, e2, e3, e4⟩ => ⟨T, .int (i : Nat), x, e1, e2, e3, rfl, e4 xs q⟩
end Z
set_option maxHeartbeats 4000000
namespace Z
open PySem PySem.Spec PyProof.Rows L2
theorem lc_rangeC {lo c : Int} {n : Nat} {g : TG} {tt : TT} {te : TE} {vs : List Nat} {σ : L2.St} {H1 : Hp} {D : Addr} {Qd : Hp → Prop} (Pv : Nat → Hp → Prop) (h0 : Pv 0 (upd H1 D (.lst [])))
    (hs : ∀ i H, i < n → Pv i H → g (.int (lo + (i : Nat) * c)) (wipe σ vs) H fun σ2 H2 => wipe σ2 vs = wipe σ vs ∧ tt σ2 H2 fun b H3 =>
      if b = true then te σ2 H3 fun y H4 => ∃ acc, H4 D = some (.lst acc) ∧ acc.length < sizeLine ∧ Pv (i + 1) (upd H4 D (.lst (acc ++ [y]))) else Pv (i + 1) H3) (hd : ∀ H, Pv n H → Qd H) :
    ∃ W : Nat → Nat → Hp → Prop, (∃ m, W 0 m (upd H1 D (.lst []))) ∧ ∀ i m H, W i m H →
      ((Itc lo c n).stop i H ∧ Qd H) ∨ ((Itc lo c n).go i H ∧ ∃ Nx : Hp → Prop, (∀ H', Nx H' → ∃ m', m' < m ∧ W (i + 1) m' H') ∧ ∀ x H', (Itc lo c n).yld i H x H' → g x (wipe σ vs) H' fun σ2 H2 => wipe σ2 vs = wipe σ vs ∧ tt σ2 H2 fun b H3 =>
        if b = true then te σ2 H3 fun y H4 => ∃ acc, H4 D = some (.lst acc) ∧ acc.length < sizeLine ∧ Nx (upd H4 D (.lst (acc ++ [y]))) else Nx H3) := by
  refine ⟨fun i m H => m = n - i ∧ i ≤ n ∧ Pv i H, ⟨n, by simp, Nat.zero_le _, h0⟩, ?_⟩
  rintro i m H ⟨rfl, hi, p⟩
  by_cases hlt : i < n
  · refine .inr ⟨hlt, Pv (i + 1), fun H' p' => ⟨n - (i + 1), by omega, rfl, hlt, p'⟩, fun x H' y => ?_⟩
    obtain ⟨e, y⟩ := y
    subst e y
    exact hs i _ hlt p
  · have e : i = n := by omega
    subst e
    exact .inl ⟨Nat.le_refl _, hd H p⟩
/-- how many numbers a range with a step has -/
def rn_ (lo hi c : Int) : Int := Builtin.Range.rangeSize lo hi c
theorem rn_pos {lo hi c : Int} (hc : 1 ≤ c) : rn_ lo hi c = if lo < hi then (hi - lo - 1) / c + 1 else 0 := by
  unfold rn_ Builtin.Range.rangeSize
  rw [if_pos (by omega)]
theorem rn_nn {lo hi c : Int} (hc : 1 ≤ c) : 0 ≤ rn_ lo hi c := by
  rw [rn_pos hc]
  split
  · have := Int.ediv_nonneg (show 0 ≤ hi - lo - 1 by omega) (show 0 ≤ c by omega)
    omega
  · exact Int.le_refl 0
/-- the count of the turns from l on -/
theorem turns_eq {l h S : Int} (hS : 1 ≤ S) : (if -((l - h).fdiv S) > 0 then -((l - h).fdiv S) else 0) = rn_ l h S := by
  rw [rn_pos hS, fe (show 0 < S by omega)]
  by_cases c : l < h
  · rw [if_pos c]
    have e : (l - h) / S = -((h - l - 1) / S) - 1 := by
      have h1 := Int.emod_add_mul_ediv (h - l - 1) S
      have h2 := Int.emod_nonneg (h - l - 1) (show S ≠ 0 by omega)
      have h3 := Int.emod_lt_of_pos (h - l - 1) (show 0 < S by omega)
      have h4 : l - h = (S - 1 - (h - l - 1) % S) + S * (-((h - l - 1) / S) - 1) := by
        rw [Int.mul_sub, Int.mul_neg, Int.mul_one]
        omega
      rw [h4, Int.add_mul_ediv_left _ _ (show S ≠ 0 by omega), Int.ediv_eq_zero_of_lt (by omega) (by omega)]
      omega
    have n := Int.ediv_nonneg (show 0 ≤ h - l - 1 by omega) (show 0 ≤ S by omega)
    rw [e, if_pos (by omega)]
    omega
  · rw [if_neg c]
    have n := Int.ediv_nonneg (show 0 ≤ l - h by omega) (show 0 ≤ S by omega)
    rw [if_neg (by omega)]
/-- the numbers of the walk that are not below 0 -/
def walk (lo c : Int) (i : Nat) : List Int := ((List.range i).map fun (j : Nat) => lo + (j : Int) * c).filter fun x => decide (0 ≤ x)
theorem walk_succ (lo c : Int) (i : Nat) : walk lo c (i + 1) = if 0 ≤ lo + (i : Int) * c then walk lo c i ++ [lo + (i : Int) * c] else walk lo c i := by
  unfold walk
  rw [List.range_succ, List.map_append, List.filter_append]
  by_cases h : 0 ≤ lo + (i : Int) * c
  · rw [if_pos h]
    simp [h]
  · rw [if_neg h]
    simp [h]
/-- from the place k on, at which the least counter stands -/
theorem walk_eq {lo c l : Int} {k : Nat} (hc : 1 ≤ c) (h0 : 0 ≤ l) (hk : l = lo + (k : Int) * c) (hl : k = 0 ∨ l < c) : ∀ i, walk lo c i = (List.range (i - k)).map fun (j : Nat) => l + (j : Int) * c
  | 0 => by
    rw [Nat.zero_sub]
    rfl
  | i + 1 => by
    rw [walk_succ, walk_eq hc h0 hk hl i]
    by_cases h : k ≤ i
    · have e : lo + (i : Int) * c = l + ((i - k : Nat) : Int) * c := by
        rw [hk, Int.natCast_sub h, Int.sub_mul]
        omega
      have nn : 0 ≤ ((i - k : Nat) : Int) * c := Int.mul_nonneg (by omega) (by omega)
      rw [e, if_pos (by omega), Nat.succ_sub h, List.range_succ, List.map_append]
      rfl
    · have h1 : k ≠ 0 := by omega
      have h2 : l < c := hl.resolve_left h1
      have e : lo + (i : Int) * c < 0 := by
        have e2 : (i : Int) * c ≤ ((k : Int) - 1) * c := Int.mul_le_mul_of_nonneg_right (by omega) (by omega)
        rw [Int.sub_mul, Int.one_mul] at e2
        omega
      rw [if_neg (by omega), show i + 1 - k = 0 by omega, show i - k = 0 by omega]
end Z
namespace Z
open PySem PySem.Spec PyProof.Rows L2
theorem rgc_pos {i j c : Int} (hc : 1 ≤ c) (hc2 : c ≤ 100) (a1 : -(2 ^ 40) ≤ i) (a2 : i ≤ 2 ^ 40) (b1 : -(2 ^ 40) ≤ j) (b2 : j ≤ 2 ^ 40) : RgC i j c (rn_ i j c).toNat := by
  have nn := rn_nn (lo := i) (hi := j) hc
  refine ⟨by omega, by omega, ?_, by show rn_ i j c = _; omega⟩
  have lt : rn_ i j c ≤ 2 ^ 42 := by
    rw [rn_pos hc]
    split
    · have := Int.ediv_le_self c (show 0 ≤ j - i - 1 by omega)
      omega
    · omega
  unfold Builtin.Range.small
  have e : Builtin.Range.rangeSize i j c = rn_ i j c := rfl
  rw [e]
  simp only [Builtin.Range.rangeFitsLong, Bool.and_eq_true, Bool.or_eq_true, decide_eq_true_eq, beq_iff_eq]
  rw [if_pos (show c > 0 by omega)]
  simp only [Bool.and_eq_true, decide_eq_true_eq]
  exact ⟨by omega, .inr (by omega)⟩
end Z
set_option maxHeartbeats 4000000
namespace K26
open PySem PySem.Spec PyProof.Rows L2 Z
theorem PenC.mono {H : Hp} {p pc : Addr} {t t' : Nat} (h : PenC H p pc t) (e : t ≤ t') : PenC H p pc t' := by
  obtain ⟨ns, a, l, h1, h2, h3, h4, h5, h6⟩ := h
  exact ⟨ns, a, l, h1, h2, h3, h4, by omega, h6⟩
theorem PenC.ne {H : Hp} {p pc a : Addr} {t : Nat} {o : HO} (h : PenC H p pc t) (e : H a = some o) (d : ∀ kvs, o ≠ .dK kvs) : a ≠ p := h.pen.ne e d
theorem PenC.ne' {H : Hp} {p pc a : Addr} {t : Nat} (h : PenC H p pc t) (e : H a = none) : p ≠ a := by
  obtain ⟨ns, x, l, h1, _⟩ := h
  exact ne_of_none h1 e
theorem PenC.lst {H H' : Hp} {p pc a : Addr} {t : Nat} {xs : List V} (h : PenC H p pc t) (k : Keep p H H') (e : H a = some (.lst xs)) : H' a = some (.lst xs) := k _ _ (h.ne e fun _ z => by cases z) e
theorem PenC.tup {H H' : Hp} {p pc a : Addr} {t : Nat} {xs : List V} (h : PenC H p pc t) (k : Keep p H H') (e : H a = some (.tup xs)) : H' a = some (.tup xs) := k _ _ (h.ne e fun _ z => by cases z) e
theorem PenC.same {H H' : Hp} {p pc : Addr} {t : Nat} (h : PenC H p pc t) (s : Same H H') : PenC H' p pc t := by
  obtain ⟨ns, a, l, h1, h2, h3⟩ := h
  exact ⟨ns, a, l, s _ _ h1, s _ _ h2, h3⟩
theorem PenC.upd {H : Hp} {p pc D : Addr} {t t' : Nat} {o : HO} (h : PenC H p pc t) (n1 : D ≠ p) (n2 : D ≠ pc) (ht : t ≤ t') : PenC (upd H D o) p pc t' := by
  obtain ⟨ns, a, l, h1, h2, h3, h4, h5, h6⟩ := h
  exact ⟨ns, a, l, by rw [upd_ne n1.symm]; exact h1, by rw [upd_ne n2.symm]; exact h2, h3, h4, by omega, h6⟩
theorem _root_.Z.DT.keepC {H H' : Hp} {v : V} {p pc : Addr} {t : Nat} {d : PyData} (h : DT H v d) (hp : PenC H p pc t) (k : Keep p H H') : DT H' v d := h.keep hp.pen k
theorem _root_.Z.DTs.keepC {H H' : Hp} {vs : List V} {p pc : Addr} {t : Nat} {ds : List PyData} (h : DTs H vs ds) (hp : PenC H p pc t) (k : Keep p H H') : DTs H' vs ds := h.keep hp.pen k
theorem _root_.Z.TSame.keepC {H H' : Hp} {p pc : Addr} {t : Nat} (h : PenC H p pc t) (k : Keep p H H') : TSame H H' := TSame.keep h.pen k
theorem ix_tupK {X : Cx} {K : PySem.W.Frag} (hK : X.K = K) : IxR X (rIxT K) := hK ▸ ix_tup
structure LwTx (K : PySem.W.Frag) (mg : Str → Option Value) : Prop extends PrTx K mg where
  list : mg "list" = none
  range : mg "range" = none
  max : mg "max" = none
  min : mg "min" = none
  sum : mg "sum" = none
  enumerate : mg "enumerate" = none
theorem LwTx.bt {K : PySem.W.Frag} {mg : Str → Option Value} (T : LwTx K mg) : Bt mg := ⟨T.int, T.len, T.list⟩
theorem text_len {n : Int} (h0 : 0 ≤ n) (h1 : n < 10 ^ 40) : (PySem.Str.ofString (toString n)).length ≤ 40 := by
  rw [PyProof.Rows.ofString_len]
  cases n with
  | ofNat m =>
    show (Nat.repr m).length ≤ 40
    have h2 : m < 10 ^ 40 := by
      have e : ((m : Nat) : Int) < 10 ^ 40 := h1
      omega
    exact (Nat.length_repr_le_iff (n := m) (by decide : 0 < 40)).mpr h2
  | negSucc m => exact absurd h0 (Int.not_le.mpr (Int.negSucc_lt_zero m))
theorem text_log {n : Int} (h0 : 0 ≤ n) (h1 : n < 10 ^ 40) : n.natAbs.log2 < 1920 := by
  have h2 : n.natAbs < 2 ^ 200 := by
    have : (10 : Int) ^ 40 < 2 ^ 200 := by decide +kernel
    omega
  by_cases h : n.natAbs = 0
  · rw [h]
    decide
  · exact Nat.lt_of_lt_of_le ((Nat.log2_lt h).mpr h2) (by decide)
def spBigG : Sp := fun vs H Q _ => ∃ (p pc : Addr) (M : Int) (t : Nat), vs = [.ref p, .int M] ∧ 0 < M ∧ M < 10 ^ 40 ∧ t < 900000000 ∧ PenC H p pc t ∧ ∀ H' (d : Int), 0 ≤ d → d < M → PenC H' p pc (t + 20) → Keep p H H' → Q (.int d) H'
def spBetween : Sp := fun vs H Q _ => ∃ (p pc : Addr) (lo hi : Int) (t : Nat), vs = [.ref p, .int lo, .int hi] ∧ lo ≤ hi ∧ hi - lo < 100000 ∧ t < 900000000 ∧ PenC H p pc t ∧ ∀ H' (d : Int), lo ≤ d → d ≤ hi → PenC H' p pc (t + 2) → Keep p H H' → Q (.int d) H'
def spName : Sp := fun vs H Q _ => ∃ (p pc : Addr) (t : Nat), vs = [.ref p] ∧ t < 900000000 ∧ PenC H p pc t ∧ ∀ H' (x : Str), isName x = true → x.length ≤ 8 → PenC H' p pc (t + 9) → Keep p H H' → Q (.str x) H'
theorem mid {S1 S2 : TS} {D : Ends} {σ : L2.St} {H : Hp} (W2 : L2.St → Hp → Prop) (h1 : (∀ σ' H', W2 σ' H' → S2 D σ' H') → tSeq S1 S2 D σ H) (h2 : ∀ σ' H', W2 σ' H' → S2 D σ' H') : tSeq S1 S2 D σ H := h1 h2
theorem sz4 : 4 ≤ sizeLine := by show 4 ≤ sizeLine; decide
theorem at0 {x : V} {l : List V} : atI (x :: l) 0 = some x := atI_nat (xs := x :: l) (j := 0) rfl
theorem at1 {x y : V} {l : List V} : atI (x :: y :: l) 1 = some y := atI_nat (xs := x :: y :: l) (j := 1) rfl
theorem at2 {x y z : V} {l : List V} : atI (x :: y :: z :: l) 2 = some z := atI_nat (xs := x :: y :: z :: l) (j := 2) rfl
theorem join_nil (l : List (List Nat)) : TL.joinL [] l = l.flatten := by
  induction l with
  | nil => rfl
  | cons p l ih =>
    cases l with
    | nil => simp [TL.joinL]
    | cons q r =>
      show p ++ ([] ++ TL.joinL [] (q :: r)) = _
      rw [ih]
      rfl
section
variable {P : Program} {w : World} {K : PySem.W.Frag} {mg : Str → Option Value} {base : Heap}
theorem sc_law_big : FnScope ["_law_pen_here", "_law_many", "_law_found", "_law_k"] ["_law_pen_here", "_law_many"] (defScope s_law_big) := ⟨rfl, rfl, rfl, by decide +kernel, rfl, by decide +kernel, by decide +kernel⟩
theorem ok_bigG {f : Addr} {fd : FuncData} (F : FnP K "_law_big" s_law_big f fd) (T : LwTx K mg) (dDraw : Dn P w K mg base 1 "_law_draw" ["_law_pen_here", "_law_many"] spDrawC) : FnOk P w K mg base CX0 2 f fd ["_law_pen_here", "_law_many"] spBigG := by
  refine F.ok sc_law_big (fun vs H Q E h => ?_) (fun cdv A outer s H vs Q E hr h => ?_)
  · obtain ⟨p, pc, M, t, rfl, _⟩ := h
    rfl
  · obtain ⟨p, pc, M, t, rfl, M0, M1, ht, hP, k⟩ := h
    refine ⟨_, PSs.nox (pss_cons (ps_set (i := 2) sc_law_big.nd rfl (Or.inl rfl) pe_int)
      (pss_cons (ps_for PassesOwn.never rfl (pi_range1 (by rfl) T.range (pa_cons (pe_op op_add (pe_op op_fdivN (pe_callB call_len_str (by rfl) T.len PySem.boot_len (pa_cons (pe_callTy call_str_int (by rfl) T.str (by decide +kernel) (pa_cons (pv 1) pa_nil)) pa_nil)) pe_int) pe_int) pa_nil)) (pg_name (i := 3) sc_law_big.nd rfl (.inl rfl)) (pss_one (ps_set (i := 2) sc_law_big.nd rfl (Or.inl rfl) (pe_op op_add (pe_op op_mul (pv 2) (pe_op op_pow pe_int pe_int)) (pe_dn dDraw hr (pa_cons (pv 0) (pa_cons (pe_op op_pow pe_int pe_int) pa_nil)))))))
      (pss_one (ps_ret (pe_op op_modN (pe_callTy call_int1 (by rfl) T.int (by decide +kernel) (pa_cons (pv 2) pa_nil)) (pv 1)))))), ?_⟩
    have tl := text_len (n := M) (by omega) M1
    have szl : 1000 ≤ sizeLine := by show 1000 ≤ sizeLine; decide
    refine ⟨_, rfl, ?_⟩
    refine ⟨_, rfl, text_log (by omega) M1, _, rfl, Nat.le_trans tl (by omega), _, _, rfl, rfl, ⟨by decide, by decide⟩, _, _, rfl, rfl, ?_⟩
    obtain ⟨q, hq⟩ : ∃ q : Nat, (q : Int) = (((PySem.Str.ofString (toString M)).length : Nat) : Int).fdiv 6 + 2 := by
      have e := Int.fdiv_eq_ediv_of_nonneg (((PySem.Str.ofString (toString M)).length : Nat) : Int) (show (0 : Int) ≤ 6 by decide)
      rw [e]
      exact ⟨((((PySem.Str.ofString (toString M)).length : Nat) : Int) / 6 + 2).toNat, by omega⟩
    have hq8 : q ≤ 20 := by
      have e := Int.fdiv_eq_ediv_of_nonneg (((PySem.Str.ofString (toString M)).length : Nat) : Int) (show (0 : Int) ≤ 6 by decide)
      rw [e] at hq
      omega
    refine ⟨(q : Int), congrArg (fun z => [V.int z]) hq.symm, by omega, by omega, ?_⟩
    rw [Int.toNat_natCast]
    refine for_range (lo := 0) (n := q) (fun i σ H' => ∃ (x : Int) (v : Option V), σ = [some (.ref p), some (.int M), some (.int x), v] ∧ 0 ≤ x ∧ PenC H' p pc (t + i) ∧ Keep p H H') ⟨0, _, rfl, by decide, hP, Keep.refl _ _⟩ ?_ ?_
    · rintro i σ H2 hi ⟨x, v, rfl, hx, hP2, kp⟩
      refine ⟨_, rfl, _, _, rfl, rfl, ⟨by decide, by decide, by decide⟩, _, _, rfl, rfl, .inr ⟨by decide, by decide⟩, ?_⟩
      refine ⟨_, rfl, _, _, rfl, rfl, ⟨by decide, by decide, by decide⟩, p, _, t + i, pc, rfl, by decide, by decide, by omega, hP2, fun H3 d d0 d1 hP3 kp3 => ?_⟩
      have hx2 : 0 ≤ x * 10 ^ (6 : Int).toNat := Int.mul_nonneg hx (by decide)
      exact ⟨_, _, rfl, rfl, _, _, rfl, by omega, hP3, kp.trans kp3⟩
    · rintro σ H2 ⟨x, v, rfl, hx, hP2, kp⟩
      refine ⟨_, rfl, .inl ⟨_, rfl, _, rfl, _, _, rfl, rfl, by omega, ?_⟩⟩
      exact k _ _ (fmod_range M0).1 (fmod_range M0).2 (hP2.mono (by omega)) kp
theorem sc_law_between : FnScope ["_law_pen_here", "_law_least", "_law_most", "_law_way", "_law_found"] ["_law_pen_here", "_law_least", "_law_most"] (defScope s_law_between) := ⟨rfl, rfl, rfl, by decide +kernel, rfl, by decide +kernel, by decide +kernel⟩
theorem ok_between {f : Addr} {fd : FuncData} (F : FnP K "_law_between" s_law_between f fd) (T : LwTx K mg) (dDraw : Dn P w K mg base 1 "_law_draw" ["_law_pen_here", "_law_many"] spDrawC) : FnOk P w K mg base CX0 2 f fd ["_law_pen_here", "_law_least", "_law_most"] spBetween := by
  refine F.ok sc_law_between (fun vs H Q E h => ?_) (fun cdv A outer s H vs Q E hr h => ?_)
  · obtain ⟨p, pc, lo, hi, t, rfl, _⟩ := h
    rfl
  · obtain ⟨p, pc, lo, hi, t, rfl, hlh, hsm, ht, hP, k⟩ := h
    refine ⟨_, PSs.nox (pss_cons (ps_set (i := 3) sc_law_between.nd rfl (Or.inl rfl) (pe_dn dDraw hr (pa_cons (pv 0) (pa_cons pe_int pa_nil))))
      (pss_cons (ps_if (pt_cmpR op_lt (pv 3) pe_int (nomark _)) (pss_one (ps_set (i := 4) sc_law_between.nd rfl (Or.inl rfl) (pe_op op_sub (pe_dn dDraw hr (pa_cons (pv 0) (pa_cons pe_int pa_nil))) pe_int))) (pss_one (ps_if (pt_cmpR op_eq (pv 3) pe_int (nomark _)) (pss_one (ps_set (i := 4) sc_law_between.nd rfl (Or.inl rfl) (pe_ix ix_list (pe_lst (pa_cons (pv 1) (pa_cons (pv 2) (pa_cons (pe_op op_add (pv 1) pe_int) (pa_cons (pe_op op_sub (pv 2) pe_int) pa_nil))))) (pe_dn dDraw hr (pa_cons (pv 0) (pa_cons pe_int pa_nil))) (fun _ _ => rfl)))) (pss_one (ps_set (i := 4) sc_law_between.nd rfl (Or.inl rfl) (pe_op op_add (pv 1) (pe_dn dDraw hr (pa_cons (pv 0) (pa_cons (pe_op op_add (pe_op op_sub (pv 2) (pv 1)) pe_int) pa_nil)))))))))
      (pss_one (ps_ret (pe_callB (call_max2 rfl) (by rfl) T.max (by decide +kernel) (pa_cons (pv 1) (pa_cons (pe_callB (call_min2 rfl) (by rfl) T.min (by decide +kernel) (pa_cons (pv 2) (pa_cons (pv 4) pa_nil))) pa_nil))))))), ?_⟩
    refine ⟨_, rfl, p, 4, t, pc, rfl, by decide, by decide, by omega, hP, fun H1 e e0 e1 hP1 k1 => ?_⟩
    refine normG (σ' := [some (.ref p), some (.int lo), some (.int hi), some (.int e), none]) rfl ?_
    dsimp only
    refine mid (fun σ' H' => ∃ x, σ' = [some (.ref p), some (.int lo), some (.int hi), some (.int e), some (.int x)] ∧ PenC H' p pc (t + 2) ∧ Keep p H H') (fun key => ?_) ?_
    · refine ⟨_, rfl, _, _, rfl, rfl, _, rfl, ite2 (fun _ => ?_) (fun _ => ?_)⟩
      · exact ⟨_, rfl, p, 7, t + 1, pc, rfl, by decide, by decide, by omega, hP1, fun H2 d d0 d1 hP2 k2 => ⟨_, _, rfl, rfl, key _ _ ⟨_, rfl, hP2.mono (by omega), k1.trans k2⟩⟩⟩
      · refine ⟨_, rfl, rfl, _, rfl, ite2 (fun _ => ?_) (fun _ => ?_)⟩
        · refine ⟨_, rfl, _, rfl, _, rfl, _, _, rfl, rfl, _, rfl, _, _, rfl, rfl, sz4, fun l hl => ?_⟩
          have s2 := Same.new (.lst [.int lo, .int hi, .int (lo + 1), .int (hi - 1)]) (Same.refl H1) hl
          refine ⟨_, rfl, p, 4, t + 1, pc, rfl, by decide, by decide, by omega, hP1.same s2, fun H2 d d0 d1 hP2 k2 => ?_⟩
          have hL2 := k2 _ _ ((hP1.same s2).ne (upd_same (H := H1) (a := l)) fun _ z => by cases z) (upd_same (H := H1) (a := l))
          obtain ⟨j, rfl⟩ : ∃ j : Nat, d = (j : Int) := ⟨d.toNat, by omega⟩
          have hv : ∃ v : Int, ([.int lo, .int hi, .int (lo + 1), .int (hi - 1)] : List V)[j]? = some (.int v) := by
            have h4 : j < 4 := by omega
            match j, h4 with
            | 0, _ => exact ⟨_, rfl⟩
            | 1, _ => exact ⟨_, rfl⟩
            | 2, _ => exact ⟨_, rfl⟩
            | 3, _ => exact ⟨_, rfl⟩
          obtain ⟨v, hv⟩ := hv
          exact ⟨l, _, _, _, rfl, rfl, SqL.of hL2, atI_nat hv, key _ _ ⟨_, rfl, hP2.mono (by omega), k1.trans ((Keep.of s2).trans k2)⟩⟩
        · refine ⟨_, rfl, _, rfl, _, rfl, _, rfl, _, _, rfl, rfl, _, _, rfl, rfl, p, hi - lo + 1, t + 1, pc, rfl, by omega, by omega, by omega, hP1, fun H2 d d0 d1 hP2 k2 => ?_⟩
          exact ⟨_, _, rfl, rfl, key _ _ ⟨_, rfl, hP2.mono (by omega), k1.trans k2⟩⟩
    rintro σ H2 ⟨x, rfl, hP2, k2⟩
    refine ⟨_, rfl, _, rfl, _, rfl, _, _, rfl, _, _, rfl, ?_⟩
    refine k _ _ ?_ ?_ hP2 k2
    · split <;> split <;> omega
    · split <;> split <;> omega
end
theorem sz10 : 10 ≤ sizeLine := by show 10 ≤ sizeLine; decide
def keptL : List Str := ["for", "i", "n", "from", "below", "by", "down", "if", "and", "mod"]
theorem kept_same (x : Str) : x ∈ keptL ↔ x ∈ kept := by
  unfold keptL kept
  simp only [List.mem_cons, List.not_mem_nil, or_false]
  constructor
  · rintro (h | h | h | h | h | h | h | h | h | h) <;> simp [h]
  · rintro (h | h | h | h | h | h | h | h | h | h) <;> simp [h]
theorem kept_z : ∀ x ∈ keptL, isName (x ++ ("z" : Str)) = true ∧ (x ++ ("z" : Str)).length ≤ 8 := by decide +kernel
theorem lets_at : ∀ j : Nat, j < 26 → ∃ c, lets.cps.toList[j]? = some c ∧ c ∈ lets.cps.toList := by
  intro j hj
  have hl : lets.cps.toList.length = 26 := by decide +kernel
  exact ⟨_, List.getElem?_eq_getElem (by omega), List.getElem_mem _⟩
/-- a text of letters is a name, unless it is kept -/
theorem name_of {x : Str} {cs : List Nat} (e : x.cps.toList = cs) (h1 : 1 ≤ cs.length) (h8 : cs.length ≤ 8) (hl : ∀ c ∈ cs, c ∈ lets.cps.toList) (hk : x ∉ kept) : isName x = true := by
  have xl : x.length = cs.length := by
    rw [← e, Array.length_toList]
    rfl
  unfold isName
  rw [decide_eq_true (show 1 ≤ x.length ∧ x.length ≤ 8 by omega), Bool.true_and, decide_eq_true hk, Bool.and_true, e]
  exact List.all_eq_true.mpr fun c hc => decide_eq_true (hl c hc)
def sing (c : Nat) : Str := ⟨#[c]⟩
theorem join_sing (cs : List Nat) : (Txt.join ("" : Str) (cs.map sing)).cps.toList = cs := by
  have e := TL.tl_join ("" : Str) (cs.map sing)
  rw [TL.join_eq]
  have e2 : TL.tl ("" : Str) = [] := by decide +kernel
  rw [e2, join_nil, List.map_map] at e
  have e3 : (cs.map (TL.tl ∘ sing)).flatten = cs := by
    clear e e2
    induction cs with
    | nil => rfl
    | cons c cs ih =>
      rw [List.map_cons, List.flatten_cons, ih]
      rfl
  rw [e3] at e
  exact e
section
variable {P : Program} {w : World} {K : PySem.W.Frag} {mg : Str → Option Value} {base : Heap}
theorem sc_law_name : FnScope ["_law_pen_here", "_law_letters", "_law_name_here", "_law_k"] ["_law_pen_here"] (defScope s_law_name) := ⟨rfl, rfl, rfl, by decide +kernel, rfl, by decide +kernel, by decide +kernel⟩
theorem ok_name {f : Addr} {fd : FuncData} (F : FnP K "_law_name" s_law_name f fd) (T : LwTx K mg) (dDraw : Dn P w K mg base 1 "_law_draw" ["_law_pen_here", "_law_many"] spDrawC) : FnOk P w K mg base CX0 2 f fd ["_law_pen_here"] spName := by
  refine F.ok sc_law_name (fun vs H Q E h => ?_) (fun cdv A outer s H vs Q E hr h => ?_)
  · obtain ⟨p, pc, t, rfl, _⟩ := h
    rfl
  · obtain ⟨p, pc, t, rfl, ht, hP, k⟩ := h
    refine ⟨_, PSs.nox (pss_cons (ps_set (i := 1) sc_law_name.nd rfl (Or.inr rfl) pe_str)
      (pss_cons (ps_set (i := 2) sc_law_name.nd rfl (Or.inl rfl) (pe_join pe_str (pe_lc (own := [("_law_k", 3)]) (g := gName 3) (tt := tYes) rfl sc_law_name.nd (pi_range1 (by rfl) T.range (pa_cons (pe_op op_add pe_int (pe_dn dDraw hr (pa_cons (pv 0) (pa_cons pe_int pa_nil)))) pa_nil)) (blkOk_by (N := ["_law_pen_here", "_law_letters", "_law_name_here", "_law_k"]) (sc := defScope s_law_name) (by decide +kernel)) (fun _ _ _ _ _ => (pg_name (i := 3) sc_law_name.nd rfl (.inl rfl))) (fun _ _ _ _ _ => pts_nil) (fun _ _ _ _ _ => (pe_ix ix_str (pv 1) (pe_dn dDraw hr (pa_cons (pv 0) (pa_cons pe_int pa_nil))) (fun _ _ => rfl))))))
      (pss_cons (ps_if (pt_cmpR op_in_seq (pv 2) (pe_tup (pa_cons pe_str (pa_cons pe_str (pa_cons pe_str (pa_cons pe_str (pa_cons pe_str (pa_cons pe_str (pa_cons pe_str (pa_cons pe_str (pa_cons pe_str (pa_cons pe_str pa_nil))))))))))) (by with_unfolding_all rfl)) (pss_one (ps_ret (pe_op op_add_str (pv 2) pe_str))) pss_nil)
      (pss_one (ps_ret (pv 2)))))), ?_⟩
    refine ⟨⟨_, rfl⟩, ?_⟩
    refine ⟨_, rfl, p, 8, t, pc, rfl, by decide, by decide, by omega, hP, fun H1 e e0 e1 hP1 k1 => ⟨_, _, rfl, rfl, ?_⟩⟩
    obtain ⟨n, hn⟩ : ∃ n : Nat, (n : Int) = 1 + e := ⟨(1 + e).toNat, by omega⟩
    refine ⟨(n : Int), congrArg (fun z => [V.int z]) hn.symm, by omega, by omega, ?_⟩
    rw [Int.toNat_natCast]
    intro D hD
    have sD := Same.new (.lst []) (Same.refl H1) hD
    refine lc_range (lo := 0) (n := n) (fun i Hc => ∃ cs : List Nat, cs.length = i ∧ (∀ c ∈ cs, c ∈ lets.cps.toList) ∧ Hc D = some (.lst ((cs.map sing).map V.str)) ∧ PenC Hc p pc (t + 1 + i) ∧ Keep p H Hc) ⟨[], rfl, (fun _ h => by cases h), upd_same, hP1.same sD, k1.trans (Keep.of sD)⟩ ?_ ?_
    · rintro i Hc hi ⟨cs, hcs, hlet, hDc, hPc, kc⟩
      refine ⟨rfl, yes_of ?_⟩
      refine ⟨_, rfl, _, rfl, p, 26, t + 1 + i, pc, rfl, by decide, by decide, by omega, hPc, fun H2 d d0 d1 hP2 k2 => ?_⟩
      obtain ⟨j, rfl⟩ : ∃ j : Nat, d = (j : Int) := ⟨d.toNat, by omega⟩
      obtain ⟨c, hc, hcl⟩ := lets_at j (by omega)
      have hD2 := k2 _ _ (hPc.ne hDc fun _ z => by cases z) hDc
      refine ⟨lets, _, c, rfl, rfl, by decide +kernel, atI_nat hc, ?_⟩
      refine ⟨_, hD2, ?_, cs ++ [c], ?_, ?_, ?_, ?_, ?_⟩
      · rw [List.length_map, List.length_map]
        have := sz10
        omega
      · rw [List.length_append, hcs]
        rfl
      · intro x hx
        rcases List.mem_append.mp hx with z | z
        · exact hlet x z
        · rw [List.mem_singleton.mp z]
          exact hcl
      · rw [upd_same]
        simp [sing]
      · refine hP2.upd ?_ ?_ (t' := t + 1 + (i + 1)) (by omega)
        · exact fun z => (hP2.ne hD2 fun _ z => by cases z) z
        · intro z
          rw [z] at hD
          obtain ⟨o, ho⟩ := hP1.has
          rw [ho] at hD
          cases hD
      · intro b o nb e
        rw [upd_ne (ne_of_none (k1 b o nb e) hD)]
        exact k2 _ _ nb (kc b o nb e)
    · rintro Hc ⟨cs, hcs, hlet, hDc, hPc, kc⟩
      have hsum : ∀ cs : List Nat, ((cs.map sing).map (·.length)).sum = cs.length := by
        intro cs
        induction cs with
        | nil => rfl
        | cons c cs ih =>
          rw [List.map_cons, List.map_cons, List.sum_cons, ih, List.length_cons]
          show 1 + cs.length = cs.length + 1
          omega
      refine ⟨("" : Str), D, cs.map sing, rfl, rfl, .inl (SqL.of hDc), ?_, ?_⟩
      · rw [hsum, List.length_map]
        show cs.length + cs.length * 0 ≤ 16777216
        omega
      obtain ⟨x, hx⟩ : ∃ x, x = Txt.join ("" : Str) (cs.map sing) := ⟨_, rfl⟩
      rw [← hx]
      have xe : x.cps.toList = cs := by rw [hx]; exact join_sing cs
      have c1 : 1 ≤ cs.length := by omega
      have c8 : cs.length ≤ 8 := by omega
      have xl : x.length ≤ 8 := by
        have : x.length = x.cps.toList.length := (Array.length_toList).symm
        rw [this, xe]
        exact c8
      refine ⟨_, rfl, ?_⟩
      refine ⟨sz10, fun T hT => ?_⟩
      have sT := Same.new (.tup (keptL.map V.str)) (Same.refl Hc) hT
      have kT : Keep p Hc (upd Hc T (.tup (keptL.map V.str))) := Keep.of sT
      refine ⟨T, _, rfl, .inr (SqT.of (xs := keptL.map V.str) upd_same), rfl, flat_strs keptL, _, rfl, ?_⟩
      rw [inv_strs]
      by_cases hk : x ∈ keptL
      · obtain ⟨z1, z2⟩ := kept_z x hk
        exact if_yes (decide_eq_true hk) ⟨_, rfl, _, _, rfl, rfl, Nat.le_trans (Nat.add_le_add_right xl 1) (by show 9 ≤ sizeLine; decide), k _ _ z1 z2 ((hPc.same sT).mono (by omega)) (kc.trans kT)⟩
      · have hk2 : x ∉ kept := fun z => hk ((kept_same x).mpr z)
        exact if_no (decide_eq_false hk) ⟨_, rfl, k _ _ (name_of xe c1 c8 hlet hk2) xl ((hPc.same sT).mono (by omega)) (kc.trans kT)⟩
end
inductive Gd where
  | lea (a b c : Int)
  | rst (a b c m r : Int)
structure RdM where
  (x : Str) (a b c d f : Int)
structure StM where
  (x : Str) (a b c k : Int) (rds : List RdM) (gds : List Gd)
structure LpM where
  (l0 l1 l2 h0 h1 h2 S : Int) (dn : Bool) (sts : List StM)
def i3 (a b c : Int) : PyData := .tuple [.int a, .int b, .int c]
def gdD : Gd → PyData
  | .lea a b c => .tuple [.str "least", i3 a b c]
  | .rst a b c m r => .tuple [.str "rest", i3 a b c, .int m, .int r]
def rdD (r : RdM) : PyData := .tuple [.str r.x, .tuple [.int r.a, .int r.b, .int r.c, .int r.d], .int r.f]
def stD (s : StM) : PyData := .tuple [.str s.x, i3 s.a s.b s.c, .int s.k, .tuple (s.rds.map rdD), .tuple (s.gds.map gdD)]
def lpD (l : LpM) : PyData := .tuple [i3 l.l0 l.l1 l.l2, i3 l.h0 l.h1 l.h2, .int l.S, .bool l.dn, .tuple (l.sts.map stD)]
def sm3 (a b c : Int) : Prop := -2 ≤ a ∧ a ≤ 2 ∧ -1 ≤ b ∧ b ≤ 1 ∧ -3 ≤ c ∧ c ≤ 3
def GdOk : Gd → Prop
  | .lea a b c => sm3 a b c
  | .rst a b c m r => sm3 a b c ∧ 2 ≤ m ∧ m ≤ 4 ∧ 0 ≤ r ∧ r ≤ m - 1
def NmOk (x : Str) : Prop := isName x = true ∧ x.length ≤ 8 ∧ x ≠ "zzzzzzzc"
def RdOk (r : RdM) : Prop := NmOk r.x ∧ sm3 r.a r.b r.c ∧ 1 ≤ r.d ∧ r.d ≤ 3 ∧ r.f ≠ 0 ∧ -999 ≤ r.f ∧ r.f ≤ 999
def StOk (s : StM) : Prop := NmOk s.x ∧ sm3 s.a s.b s.c ∧ -9 ≤ s.k ∧ s.k ≤ 99 ∧ s.rds.length ≤ 3 ∧ s.gds.length ≤ 2 ∧ (∀ r ∈ s.rds, RdOk r) ∧ ∀ g ∈ s.gds, GdOk g
def LpOk (l : LpM) : Prop := 0 ≤ l.l0 ∧ l.l0 ≤ 1 ∧ -3 ≤ l.l1 ∧ l.l1 ≤ 2 ∧ 1 ≤ l.l2 ∧ l.l2 ≤ 2 ∧ 0 ≤ l.h0 ∧ l.h0 ≤ 2 ∧ -1 ≤ l.h1 ∧ l.h1 ≤ 4 ∧ 1 ≤ l.h2 ∧ l.h2 ≤ 3 ∧ 1 ≤ l.S ∧ l.S ≤ 3 ∧ (1 < l.S → l.l2 = 1) ∧ 1 ≤ l.sts.length ∧ l.sts.length ≤ 3 ∧ ∀ s ∈ l.sts, StOk s
theorem gd3 {H : Hp} {t : Addr} {a b c : Int} (h : H t = some (.tup [.int a, .int b, .int c])) : DT H (.ref t) (i3 a b c) := dt3 h
def spPick : Sp := fun vs H Q _ => ∃ (p pc l : Addr) (xs : List V) (t : Nat), vs = [.ref p, .ref l] ∧ H l = some (.lst xs) ∧ 0 < xs.length ∧ xs.length < 100 ∧ t < 1000000000 ∧ PenC H p pc t ∧ ∀ H' x, x ∈ xs → PenC H' p pc (t + 1) → Keep p H H' → Q x H'
def spSGuard : Sp := fun vs H Q _ => ∃ (p pc : Addr) (t : Nat), vs = [.ref p] ∧ t < 900000000 ∧ PenC H p pc t ∧ ∀ H' v g, GdOk g → DT H' v (gdD g) → PenC H' p pc (t + 6) → Keep p H H' → Q v H'
section
variable {P : Program} {w : World} {K : PySem.W.Frag} {mg : Str → Option Value} {base : Heap}
theorem sc_law_pick : FnScope ["_law_pen_here", "_law_some"] ["_law_pen_here", "_law_some"] (defScope s_law_pick) := ⟨rfl, rfl, rfl, by decide +kernel, rfl, by decide +kernel, by decide +kernel⟩
theorem ok_pick {f : Addr} {fd : FuncData} (F : FnP K "_law_pick" s_law_pick f fd) (T : LwTx K mg) (dDraw : Dn P w K mg base 1 "_law_draw" ["_law_pen_here", "_law_many"] spDrawC) : FnOk P w K mg base CX0 2 f fd ["_law_pen_here", "_law_some"] spPick := by
  refine F.ok sc_law_pick (fun vs H Q E h => ?_) (fun cdv A outer s H vs Q E hr h => ?_)
  · obtain ⟨p, pc, l, xs, t, rfl, _⟩ := h
    rfl
  · obtain ⟨p, pc, l, xs, t, rfl, hl, h0, h1, ht, hP, k⟩ := h
    refine ⟨_, PSs.nox (pss_one (ps_ret (pe_ix ix_list (pv 1) (pe_dn dDraw hr (pa_cons (pv 0) (pa_cons (pe_callB call_len_seq (by rfl) T.len PySem.boot_len (pa_cons (pv 1) pa_nil)) pa_nil))) (fun _ _ => rfl)))), ?_⟩
    refine ⟨_, rfl, _, rfl, _, rfl, l, _, rfl, .inl (SqL.of hl), ?_⟩
    refine ⟨p, _, t, pc, rfl, by omega, by omega, ht, hP, fun H' d d0 d1 hP' kp => ?_⟩
    obtain ⟨j, rfl⟩ : ∃ j : Nat, d = (j : Int) := ⟨d.toNat, by omega⟩
    have hj : j < xs.length := by omega
    have hl' : H' l = some (.lst xs) := kp _ _ (hP.ne hl fun _ z => lst_ne_dK z) hl
    refine ⟨l, _, _, _, rfl, rfl, SqL.of hl', atI_nat (List.getElem?_eq_getElem hj), ?_⟩
    exact k _ _ (List.getElem_mem _) hP' kp
theorem sz3 : 3 ≤ sizeLine := by show 3 ≤ sizeLine; decide
theorem sz2 : 2 ≤ sizeLine := by show 2 ≤ sizeLine; decide
theorem sc_law_small_guard : FnScope ["_law_pen_here", "_law_row", "_law_m"] ["_law_pen_here"] (defScope s_law_small_guard) := ⟨rfl, rfl, rfl, by decide +kernel, rfl, by decide +kernel, by decide +kernel⟩
theorem ok_sguard {f : Addr} {fd : FuncData} (F : FnP K "_law_small_guard" s_law_small_guard f fd) (T : LwTx K mg) (dDraw : Dn P w K mg base 1 "_law_draw" ["_law_pen_here", "_law_many"] spDrawC) : FnOk P w K mg base CX0 2 f fd ["_law_pen_here"] spSGuard := by
  refine F.ok sc_law_small_guard (fun vs H Q E h => ?_) (fun cdv A outer s H vs Q E hr h => ?_)
  · obtain ⟨p, pc, t, rfl, _⟩ := h
    rfl
  · obtain ⟨p, pc, t, rfl, ht, hP, k⟩ := h
    refine ⟨_, PSs.nox (pss_cons (ps_set (i := 1) sc_law_small_guard.nd rfl (Or.inl rfl) (pe_tup (pa_cons (pe_op op_sub (pe_dn dDraw hr (pa_cons (pv 0) (pa_cons pe_int pa_nil))) pe_int) (pa_cons (pe_op op_sub (pe_dn dDraw hr (pa_cons (pv 0) (pa_cons pe_int pa_nil))) pe_int) (pa_cons (pe_op op_sub (pe_dn dDraw hr (pa_cons (pv 0) (pa_cons pe_int pa_nil))) pe_int) pa_nil)))))
      (pss_cons (ps_if (pt_cmpR op_eq (pe_dn dDraw hr (pa_cons (pv 0) (pa_cons pe_int pa_nil))) pe_int (nomark _)) (pss_one (ps_ret (pe_tup (pa_cons pe_str (pa_cons (pv 1) pa_nil))))) pss_nil)
      (pss_cons (ps_set (i := 2) sc_law_small_guard.nd rfl (Or.inl rfl) (pe_op op_add pe_int (pe_dn dDraw hr (pa_cons (pv 0) (pa_cons pe_int pa_nil)))))
      (pss_one (ps_ret (pe_tup (pa_cons pe_str (pa_cons (pv 1) (pa_cons (pv 2) (pa_cons (pe_dn dDraw hr (pa_cons (pv 0) (pa_cons (pv 2) pa_nil))) pa_nil)))))))))), ?_⟩
    refine ⟨_, rfl, p, 5, t, pc, rfl, by decide, by decide, by omega, hP, fun H1 a a0 a1 hP1 k1 => ⟨_, _, rfl, rfl, ?_⟩⟩
    refine ⟨_, rfl, p, 3, t + 1, pc, rfl, by decide, by decide, by omega, hP1, fun H2 b b0 b1 hP2 k2 => ⟨_, _, rfl, rfl, ?_⟩⟩
    refine ⟨_, rfl, p, 7, t + 2, pc, rfl, by decide, by decide, by omega, hP2, fun H3 c c0 c1 hP3 k3 => ⟨_, _, rfl, rfl, sz3, fun T3 hT3 => ?_⟩⟩
    have k13 := k1.trans (k2.trans k3)
    obtain ⟨H4, eH4⟩ : ∃ L, L = upd H3 T3 (.tup [.int (a - 2), .int (b - 1), .int (c - 3)]) := ⟨_, rfl⟩
    have s4 : Same H3 H4 := by rw [eH4]; exact Same.new _ (Same.refl H3) hT3
    have hT : H4 T3 = some (.tup [.int (a - 2), .int (b - 1), .int (c - 3)]) := by rw [eH4]; exact upd_same
    rw [← eH4]
    have hP4 := hP3.same s4
    have k14 : Keep p H H4 := k13.trans (Keep.of s4)
    have ok3 : sm3 (a - 2) (b - 1) (c - 3) := by unfold sm3; omega
    refine normG (σ' := [some (.ref p), some (.ref T3), none]) rfl ?_
    refine ⟨_, rfl, p, 2, t + 3, pc, rfl, by decide, by decide, by omega, hP4, fun H5 e e0 e1 hP5 k5 => ?_⟩
    have dT5 := (gd3 hT).keepC hP4 k5
    refine ⟨rfl, _, rfl, ite2 (fun _ => ?_) (fun _ => ?_)⟩
    · refine ⟨_, rfl, sz2, fun t6 ht6 => ?_⟩
      have s6 : Same H5 (upd H5 t6 (.tup [.str "least", .ref T3])) := Same.new _ (Same.refl H5) ht6
      exact k _ _ (.lea (a - 2) (b - 1) (c - 3)) ok3 (.tup upd_same (.cons (.str _) (.cons (dT5.same s6) .nil))) ((hP5.same s6).mono (by omega)) (k14.trans (k5.trans (Keep.of s6)))
    · refine ⟨_, rfl, p, 3, t + 4, pc, rfl, by decide, by decide, by omega, hP5, fun H6 m m0 m1 hP6 k6 => ⟨_, _, rfl, rfl, ?_⟩⟩
      refine normG (σ' := [some (.ref p), some (.ref T3), some (.int (2 + m))]) rfl ?_
      have dT6 := dT5.keepC hP5 k6
      refine ⟨_, rfl, _, rfl, _, rfl, _, rfl, p, 2 + m, t + 5, pc, rfl, by omega, by omega, by omega, hP6, fun H7 r r0 r1 hP7 k7 => ⟨sz4, fun t8 ht8 => ?_⟩⟩
      have dT7 := dT6.keepC hP6 k7
      have s8 : Same H7 (upd H7 t8 (.tup [.str "rest", .ref T3, .int (2 + m), .int r])) := Same.new _ (Same.refl H7) ht8
      exact k _ _ (.rst (a - 2) (b - 1) (c - 3) (2 + m) r) ⟨ok3, by omega, by omega, r0, by omega⟩ (.tup upd_same (.cons (.str _) (.cons (dT7.same s8) (.cons (.int _) (.cons (.int _) .nil))))) ((hP7.same s8).mono (by omega)) (k14.trans (k5.trans (k6.trans (k7.trans (Keep.of s8)))))
end
end K26
set_option maxHeartbeats 4000000
namespace K26
open PySem PySem.Spec PyProof.Rows L2 Z
theorem last_no : ∀ w ∈ (("zzzzzzzc" : Str) :: kept), ∀ c ∈ ([97, 98, 122, 107] : List Nat), w.cps.toList.getLast? ≠ some c := by decide +kernel
theorem four_lets : ∀ c ∈ ([97, 98, 122, 107] : List Nat), c ∈ lets.cps.toList := by decide +kernel
theorem nm_of {x : Str} (hx : ∀ c ∈ x.cps.toList, c ∈ lets.cps.toList) (hl : x.length ≤ 7) {c : Nat} (hc : c ∈ ([97, 98, 122, 107] : List Nat)) : NmOk (x ++ sing c) := by
  have e : (x ++ sing c).cps.toList = x.cps.toList ++ [c] := TL.tl_append x (sing c)
  have lx : x.cps.toList.length = x.length := Array.length_toList
  have lst : (x ++ sing c).cps.toList.getLast? = some c := by rw [e]; simp
  have len : (x ++ sing c).length = x.length + 1 := by
    have : (x ++ sing c).length = (x ++ sing c).cps.toList.length := Array.length_toList.symm
    rw [this, e, List.length_append, lx]
    rfl
  refine ⟨name_of e ?_ ?_ ?_ ?_, by omega, fun z => last_no _ (List.mem_cons_self ..) c hc (by rw [← z]; exact lst)⟩
  · rw [List.length_append]
    exact Nat.le_add_left _ _
  · rw [List.length_append, lx]
    show x.length + 1 ≤ 8
    omega
  · intro d hd
    rcases List.mem_append.mp hd with z | z
    · exact hx d z
    · rw [List.mem_singleton.mp z]
      exact four_lets c hc
  · intro z
    exact last_no _ (List.mem_cons_of_mem _ z) c hc lst
theorem isName_let {x : Str} (h : isName x = true) : ∀ c ∈ x.cps.toList, c ∈ lets.cps.toList := by
  unfold isName at h
  intro c hc
  have h1 := (Bool.and_eq_true_iff.mp (Bool.and_eq_true_iff.mp h).2).1
  exact of_decide_eq_true (List.all_eq_true.mp h1 c hc)
theorem cut_mem {z : Str} {lo hi : Option Int} {c : Nat} (h : c ∈ (cutS z lo hi).cps.toList) : c ∈ z.cps.toList := by
  unfold cutS at h
  exact List.mem_of_mem_drop (List.mem_of_mem_take h)
theorem cut7 (z : Str) : (cutS z none (some 7)).length ≤ 7 := by
  have : (cutS z none (some 7)).length = (cutS z none (some 7)).cps.toList.length := Array.length_toList.symm
  rw [this]
  unfold cutS
  show ((z.cps.toList.drop _).take _).length ≤ 7
  rw [List.length_take]
  have e := HT.sIx_nat z.length z.length 7
  rw [show ((7 : Nat) : Int) = 7 from rfl] at e
  rw [e]
  omega
theorem cut_bzk {m : Int} (h0 : 0 ≤ m) (h1 : m ≤ 2) : (cutS "bzk" none (some m)).cps.size ≤ 2 := by
  obtain rfl | rfl | rfl : m = 0 ∨ m = 1 ∨ m = 2 := by omega
  all_goals decide +kernel
theorem bzk_mem : ∀ c ∈ ("bzk" : Str).cps.toList, c ∈ ([97, 98, 122, 107] : List Nat) := by decide +kernel
def spNames : Sp := fun vs H Q _ => ∃ (p pc : Addr) (m : Int) (t : Nat), vs = [.ref p, .int m] ∧ 1 ≤ m ∧ m ≤ 3 ∧ t < 800000000 ∧ PenC H p pc t ∧ ∀ H' l (xs : List Str), H' l = some (.lst (xs.map V.str)) → 1 ≤ xs.length → xs.length ≤ 3 → (∀ x ∈ xs, NmOk x) → PenC H' p pc (t + 9) → Keep p H H' → Q (.ref l) H'
section
variable {P : Program} {w : World} {K : PySem.W.Frag} {mg : Str → Option Value} {base : Heap}
theorem sc_law_names : FnScope ["_law_pen_here", "_law_many", "_law_first", "_law_found", "_law_letter"] ["_law_pen_here", "_law_many"] (defScope s_law_names) := ⟨rfl, rfl, rfl, by decide +kernel, rfl, by decide +kernel, by decide +kernel⟩
theorem ok_names {f : Addr} {fd : FuncData} (F : FnP K "_law_names" s_law_names f fd) (T : LwTx K mg) (dName : Dn P w K mg base 2 "_law_name" ["_law_pen_here"] spName) : FnOk P w K mg base CX0 3 f fd ["_law_pen_here", "_law_many"] spNames := by
  refine F.ok sc_law_names (fun vs H Q E h => ?_) (fun cdv A outer s H vs Q E hr h => ?_)
  · obtain ⟨p, pc, m, t, rfl, _⟩ := h
    rfl
  · obtain ⟨p, pc, m, t, rfl, m1, m3, ht, hP, k⟩ := h
    refine ⟨_, PSs.nox (pss_cons (ps_set (i := 2) sc_law_names.nd rfl (Or.inl rfl) (pe_slice sl_str (pe_dn dName hr (pa_cons (pv 0) pa_nil)) po_none (po_some pe_int)))
      (pss_cons (ps_set (i := 3) sc_law_names.nd rfl (Or.inl rfl) (pe_lst (pa_cons (pe_op op_add_str (pv 2) pe_str) pa_nil)))
      (pss_cons (ps_for PassesOwn.never rfl (pi_str (pe_slice sl_str pe_str po_none (po_some (pe_op op_sub (pv 1) pe_int)))) (pg_name (i := 4) sc_law_names.nd rfl (.inl rfl)) (pss_one (ps_expr (pe_bm PySem.F.plainAttrs_list PySem.F.slot_list_append PySem.F.type_list_append mt_append (pv 3) (pa_cons (pe_op op_add_str (pv 2) (pv 4)) pa_nil)))))
      (pss_one (ps_ret (pv 3)))))), ?_⟩
    refine ⟨_, rfl, p, pc, t, rfl, by omega, hP, fun H1 x hx hl hP1 k1 => ?_⟩
    refine ⟨_, rfl, x, rfl, Nat.le_trans hl (by show 8 ≤ sizeLine; decide), ?_⟩
    obtain ⟨y, ey⟩ : ∃ y, y = cutS x none (some 7) := ⟨_, rfl⟩
    rw [← ey]
    have hy : ∀ c ∈ y.cps.toList, c ∈ lets.cps.toList := fun c hc => isName_let hx c (cut_mem (by rw [← ey]; exact hc))
    have ly : y.length ≤ 7 := by rw [ey]; exact cut7 x
    refine normG (σ' := [some (.ref p), some (.int m), some (.str y), none, none]) rfl ?_
    have szy : y.length + 1 ≤ sizeLine := Nat.le_trans (Nat.add_le_add_right ly 1) (by show 8 ≤ sizeLine; decide)
    refine ⟨_, rfl, _, _, rfl, rfl, szy, (by show 1 ≤ sizeLine; decide), fun l hl => ?_⟩
    have s2 := Same.new (.lst [.str (y ++ ("a" : Str))]) (Same.refl H1) hl
    have hP2 := hP1.same s2
    refine normG (σ' := [some (.ref p), some (.int m), some (.str y), some (.ref l), none]) rfl ?_
    refine ⟨_, rfl, _, _, rfl, rfl, _, rfl, ("bzk" : Str), rfl, (by decide +kernel), _, rfl, ?_⟩
    obtain ⟨z, ez⟩ : ∃ z, z = cutS "bzk" none (some (m - 1)) := ⟨_, rfl⟩
    rw [← ez]
    have z2 : z.cps.size ≤ 2 := by rw [ez]; exact cut_bzk (by omega) (by omega)
    refine for_it walk_str (fun i σ H' => ∃ (v : Option V) (xs : List Str), σ = [some (.ref p), some (.int m), some (.str y), some (.ref l), v] ∧ H' l = some (.lst (xs.map V.str)) ∧ xs.length = i + 1 ∧ (∀ x ∈ xs, NmOk x) ∧ Same H1 H') ?_ (fun _ _ _ _ _ => trivial) ?_ ?_
    · exact ⟨none, [y ++ ("a" : Str)], rfl, upd_same, rfl, fun x hx => by rw [List.mem_singleton.mp hx]; exact nm_of hy ly (c := 97) (by simp), s2⟩
    · rintro i v σ H2 H3 hi ⟨v4, xs, rfl, hl2, hx2, nx, s3⟩ ⟨rfl, c, hc, rfl⟩
      have hcm : c ∈ z.cps.toList := by
        have : z.cps.toList[i]? = some c := by rw [Array.getElem?_toList]; exact hc
        exact List.mem_of_getElem? this
      have hc4 : c ∈ ([97, 98, 122, 107] : List Nat) := bzk_mem c (cut_mem (by rw [← ez]; exact hcm))
      refine normG (σ' := [some (.ref p), some (.int m), some (.str y), some (.ref l), some (.str (sing c))]) rfl ?_
      refine ⟨_, rfl, .inl ⟨rfl, _, SqL.of hl2⟩, _, rfl, _, rfl, _, _, rfl, rfl, szy, ?_⟩
      refine ⟨_, _, _, rfl, rfl, hl2, ?_, _, xs ++ [y ++ sing c], rfl, ?_, ?_, ?_, ?_⟩
      · rw [List.length_map]
        have : 1000 ≤ sizeLine := by show 1000 ≤ sizeLine; decide
        omega
      · rw [upd_same, List.map_append]
        rfl
      · rw [List.length_append, hx2]
        rfl
      · intro x hx
        rcases List.mem_append.mp hx with q | q
        · exact nx x q
        · rw [List.mem_singleton.mp q]
          exact nm_of hy ly hc4
      · intro b o e
        rw [upd_ne (ne_of_none e hl)]
        exact s3 b o e
    · rintro σ H2 ⟨v4, xs, rfl, hl2, hx2, nx, s3⟩
      exact ⟨_, rfl, k _ _ _ hl2 (by omega) (by omega) nx (hP1.same s3) (k1.trans (Keep.of s3))⟩
end
theorem five : ∀ (j : Nat) (v : V), ([.int 1, .int 1, .int 1, .int 2, .int 3] : List V)[j]? = some v → ∃ d : Int, v = .int d ∧ 1 ≤ d ∧ d ≤ 3 := by
  intro j v h
  match j, h with
  | 0, h => exact ⟨_, (Option.some.inj h).symm, by decide, by decide⟩
  | 1, h => exact ⟨_, (Option.some.inj h).symm, by decide, by decide⟩
  | 2, h => exact ⟨_, (Option.some.inj h).symm, by decide, by decide⟩
  | 3, h => exact ⟨_, (Option.some.inj h).symm, by decide, by decide⟩
  | 4, h => exact ⟨_, (Option.some.inj h).symm, by decide, by decide⟩
  | j + 5, h => cases h
theorem eight : ∀ (j : Nat) (v : V), ([.int 1, .int 1, .int (-1), .int 2, .int 3, .int (-2), .int 999, .int (-999)] : List V)[j]? = some v → ∃ d : Int, v = .int d ∧ d ≠ 0 ∧ -999 ≤ d ∧ d ≤ 999 := by
  intro j v h
  match j, h with
  | 0, h => exact ⟨_, (Option.some.inj h).symm, by decide, by decide, by decide⟩
  | 1, h => exact ⟨_, (Option.some.inj h).symm, by decide, by decide, by decide⟩
  | 2, h => exact ⟨_, (Option.some.inj h).symm, by decide, by decide, by decide⟩
  | 3, h => exact ⟨_, (Option.some.inj h).symm, by decide, by decide, by decide⟩
  | 4, h => exact ⟨_, (Option.some.inj h).symm, by decide, by decide, by decide⟩
  | 5, h => exact ⟨_, (Option.some.inj h).symm, by decide, by decide, by decide⟩
  | 6, h => exact ⟨_, (Option.some.inj h).symm, by decide, by decide, by decide⟩
  | 7, h => exact ⟨_, (Option.some.inj h).symm, by decide, by decide, by decide⟩
  | j + 8, h => cases h
theorem six : ∀ (j : Nat) (v : V), ([.int 0, .int 0, .int 0, .int 1, .int 1, .int 2] : List V)[j]? = some v → ∃ d : Nat, v = .int (d : Int) ∧ d ≤ 2 := by
  intro j v h
  match j, h with
  | 0, h => exact ⟨0, (Option.some.inj h).symm, by decide⟩
  | 1, h => exact ⟨0, (Option.some.inj h).symm, by decide⟩
  | 2, h => exact ⟨0, (Option.some.inj h).symm, by decide⟩
  | 3, h => exact ⟨1, (Option.some.inj h).symm, by decide⟩
  | 4, h => exact ⟨1, (Option.some.inj h).symm, by decide⟩
  | 5, h => exact ⟨2, (Option.some.inj h).symm, by decide⟩
  | j + 6, h => cases h
theorem sz1 : 1 ≤ sizeLine := by show 1 ≤ sizeLine; decide
theorem sz8 : 8 ≤ sizeLine := by show 8 ≤ sizeLine; decide
theorem sz6 : 6 ≤ sizeLine := by show 6 ≤ sizeLine; decide
theorem sz5 : 5 ≤ sizeLine := by show 5 ≤ sizeLine; decide
theorem sz7 : 7 ≤ sizeLine := by show 7 ≤ sizeLine; decide
theorem sz1l (n : Nat) (h : n < 1000) : n < sizeLine := Nat.lt_of_lt_of_le h sz1000
/-- a number drawn is a place in a list of so many -/
theorem drawn {d : Int} {n : Nat} (h0 : 0 ≤ d) (h1 : d < (n : Int)) : ∃ j : Nat, d = (j : Int) ∧ j < n := ⟨d.toNat, by omega, by omega⟩
def spSStm : Sp := fun vs H Q _ => ∃ (p pc l : Addr) (xs : List Str) (t : Nat), vs = [.ref p, .ref l] ∧ H l = some (.lst (xs.map V.str)) ∧ 1 ≤ xs.length ∧ xs.length ≤ 3 ∧ (∀ x ∈ xs, NmOk x) ∧ t < 800000000 ∧ PenC H p pc t ∧
  ∀ H' v s, StOk s → DT H' v (stD s) → PenC H' p pc (t + 60) → Keep p H H' → Q v H'
section
variable {P : Program} {w : World} {K : PySem.W.Frag} {mg : Str → Option Value} {base : Heap}
theorem sc_law_small_statement : FnScope ["_law_pen_here", "_law_names_here", "_law_array", "_law_cell", "_law_read", "_law_guards", "_law_turn", "_law_place"] ["_law_pen_here", "_law_names_here"] (defScope s_law_small_statement) := ⟨rfl, rfl, rfl, by decide +kernel, rfl, by decide +kernel, by decide +kernel⟩
theorem ok_sstm {f : Addr} {fd : FuncData} (F : FnP K "_law_small_statement" s_law_small_statement f fd) (T : LwTx K mg) (dDraw : Dn P w K mg base 1 "_law_draw" ["_law_pen_here", "_law_many"] spDrawC)
    (dPick : Dn P w K mg base 2 "_law_pick" ["_law_pen_here", "_law_some"] spPick) (dBetween : Dn P w K mg base 2 "_law_between" ["_law_pen_here", "_law_least", "_law_most"] spBetween) (dSGuard : Dn P w K mg base 2 "_law_small_guard" ["_law_pen_here"] spSGuard) :
    FnOk P w K mg base CX0 3 f fd ["_law_pen_here", "_law_names_here"] spSStm := by
  refine F.ok sc_law_small_statement (fun vs H Q E h => ?_) (fun cdv A outer s H vs Q E hr h => ?_)
  · obtain ⟨p, pc, l, xs, t, rfl, _⟩ := h
    rfl
  · obtain ⟨p, pc, l, xs, t, rfl, hl, x1, x3, nx, ht, hP, k⟩ := h
    refine ⟨_, PSs.nox (pss_cons (ps_set (i := 2) sc_law_small_statement.nd rfl (Or.inl rfl) (pe_dn dPick hr (pa_cons (pv 0) (pa_cons (pv 1) pa_nil))))
      (pss_cons (ps_set (i := 3) sc_law_small_statement.nd rfl (Or.inl rfl) (pe_tup (pa_cons (pe_op op_sub (pe_dn dDraw hr (pa_cons (pv 0) (pa_cons pe_int pa_nil))) pe_int) (pa_cons (pe_op op_sub (pe_dn dDraw hr (pa_cons (pv 0) (pa_cons pe_int pa_nil))) pe_int) (pa_cons (pe_op op_sub (pe_dn dDraw hr (pa_cons (pv 0) (pa_cons pe_int pa_nil))) pe_int) pa_nil)))))
      (pss_cons (ps_par (i := 4) (j := 5) (by rfl) sc_law_small_statement.nd rfl rfl (by decide) rfl rfl (pa_cons (pe_lst pa_nil) (pa_cons (pe_lst pa_nil) pa_nil)) (by rfl))
      (pss_cons (ps_for PassesOwn.never rfl (pi_range1 (by rfl) T.range (pa_cons (pe_dn dDraw hr (pa_cons (pv 0) (pa_cons pe_int pa_nil))) pa_nil)) (pg_name (i := 6) sc_law_small_statement.nd rfl (.inl rfl)) (pss_cons (ps_set (i := 7) sc_law_small_statement.nd rfl (Or.inl rfl) (pe_tup (pa_cons (pe_op op_sub (pe_dn dDraw hr (pa_cons (pv 0) (pa_cons pe_int pa_nil))) pe_int) (pa_cons (pe_op op_sub (pe_dn dDraw hr (pa_cons (pv 0) (pa_cons pe_int pa_nil))) pe_int) (pa_cons (pe_op op_sub (pe_dn dDraw hr (pa_cons (pv 0) (pa_cons pe_int pa_nil))) pe_int) pa_nil)))))
      (pss_cons (ps_set (i := 7) sc_law_small_statement.nd rfl (Or.inl rfl) (pe_op op_catT (pv 7) (pe_tup (pa_cons (pe_ix ix_list (pe_lst (pa_cons pe_int (pa_cons pe_int (pa_cons pe_int (pa_cons pe_int (pa_cons pe_int pa_nil)))))) (pe_dn dDraw hr (pa_cons (pv 0) (pa_cons pe_int pa_nil))) (fun _ _ => rfl)) pa_nil))))
      (pss_one (ps_expr (pe_bm PySem.F.plainAttrs_list PySem.F.slot_list_append PySem.F.type_list_append mt_append (pv 4) (pa_cons (pe_tup (pa_cons (pe_dn dPick hr (pa_cons (pv 0) (pa_cons (pv 1) pa_nil))) (pa_cons (pv 7) (pa_cons (pe_ix ix_list (pe_lst (pa_cons pe_int (pa_cons pe_int (pa_cons (pe_un un_neg pe_int) (pa_cons pe_int (pa_cons pe_int (pa_cons (pe_un un_neg pe_int) (pa_cons pe_int (pa_cons (pe_un un_neg pe_int) pa_nil))))))))) (pe_dn dDraw hr (pa_cons (pv 0) (pa_cons pe_int pa_nil))) (fun _ _ => rfl)) pa_nil)))) pa_nil)))))))
      (pss_cons (ps_for PassesOwn.never rfl (pi_range1 (by rfl) T.range (pa_cons (pe_ix ix_list (pe_lst (pa_cons pe_int (pa_cons pe_int (pa_cons pe_int (pa_cons pe_int (pa_cons pe_int (pa_cons pe_int pa_nil))))))) (pe_dn dDraw hr (pa_cons (pv 0) (pa_cons pe_int pa_nil))) (fun _ _ => rfl)) pa_nil)) (pg_name (i := 6) sc_law_small_statement.nd rfl (.inl rfl)) (pss_one (ps_expr (pe_bm PySem.F.plainAttrs_list PySem.F.slot_list_append PySem.F.type_list_append mt_append (pv 5) (pa_cons (pe_dn dSGuard hr (pa_cons (pv 0) pa_nil)) pa_nil)))))
      (pss_one (ps_ret (pe_tup (pa_cons (pv 2) (pa_cons (pv 3) (pa_cons (pe_dn dBetween hr (pa_cons (pv 0) (pa_cons (pe_un un_neg pe_int) (pa_cons pe_int pa_nil)))) (pa_cons (pe_callTy call_tuple_of (by rfl) T.tuple (by decide +kernel) (pa_cons (pv 4) pa_nil)) (pa_cons (pe_callTy call_tuple_of (by rfl) T.tuple (by decide +kernel) (pa_cons (pv 5) pa_nil)) pa_nil))))))))))))), ?_⟩
    have xl : (xs.map V.str).length = xs.length := List.length_map ..
    refine ⟨_, rfl, _, rfl, p, pc, l, _, t, rfl, hl, by omega, by omega, by omega, hP, fun H1 x hx hP1 k1 => ?_⟩
    obtain ⟨nm, hnm, rfl⟩ := List.mem_map.mp hx
    have hl1 := k1 _ _ (hP.ne hl fun _ z => by cases z) hl
    refine normG (σ' := [some (.ref p), some (.ref l), some (.str nm), none, none, none, none, none]) rfl ?_
    refine ⟨_, rfl, p, 4, t + 1, pc, rfl, by decide, by decide, by omega, hP1, fun H2 a a0 a1 hP2 k2 => ⟨_, _, rfl, rfl, ?_⟩⟩
    refine ⟨_, rfl, p, 3, t + 2, pc, rfl, by decide, by decide, by omega, hP2, fun H3 b b0 b1 hP3 k3 => ⟨_, _, rfl, rfl, ?_⟩⟩
    refine ⟨_, rfl, p, 5, t + 3, pc, rfl, by decide, by decide, by omega, hP3, fun H4 c c0 c1 hP4 k4 => ⟨_, _, rfl, rfl, sz3, fun C hC => ?_⟩⟩
    have k14 := k1.trans (k2.trans (k3.trans k4))
    have hl4 := k4 _ _ (hP3.ne (k3 _ _ (hP2.ne (k2 _ _ (hP1.ne hl1 fun _ z => by cases z) hl1) fun _ z => by cases z) (k2 _ _ (hP1.ne hl1 fun _ z => by cases z) hl1)) fun _ z => by cases z) (k3 _ _ (hP2.ne (k2 _ _ (hP1.ne hl1 fun _ z => by cases z) hl1) fun _ z => by cases z) (k2 _ _ (hP1.ne hl1 fun _ z => by cases z) hl1))
    obtain ⟨H5, eH5⟩ : ∃ L, L = upd H4 C (.tup [.int (a - 1), .int (b - 1), .int (c - 2)]) := ⟨_, rfl⟩
    have s5 : Same H4 H5 := by rw [eH5]; exact Same.new _ (Same.refl H4) hC
    have dC : DT H5 (.ref C) (i3 (a - 1) (b - 1) (c - 2)) := by rw [eH5]; exact gd3 upd_same
    rw [← eH5]
    refine normG (σ' := [some (.ref p), some (.ref l), some (.str nm), some (.ref C), none, none, none, none]) rfl ?_
    have hP5 := hP4.same s5
    refine ⟨(by decide), fun R hR => ⟨(by decide), fun G hG => ⟨_, _, rfl, ?_⟩⟩⟩
    have k5 : Keep p H H5 := k14.trans (Keep.of s5)
    have sR := Same.new (.lst []) (Same.refl H5) hR
    obtain ⟨H6, eH6⟩ : ∃ L, L = upd (upd H5 R (.lst [])) G (.lst []) := ⟨_, rfl⟩
    have s6 : Same H5 H6 := by rw [eH6]; exact Same.new _ sR hG
    have nGR : G ≠ R := fun z => by
      rw [z, upd_same] at hG
      cases hG
    have hR6 : H6 R = some (.lst []) := by rw [eH6, upd_ne nGR.symm]; exact upd_same
    have hG6 : H6 G = some (.lst []) := by rw [eH6]; exact upd_same
    have hG5 : H5 G = none := by
      rw [upd_ne nGR] at hG
      exact hG
    rw [← eH6]
    refine norm (σ' := [some (.ref p), some (.ref l), some (.str nm), some (.ref C), some (.ref R), some (.ref G), none, none]) rfl ?_
    have t14 : t + 4 ≤ t + 4 := Nat.le_refl _
    have hP6 := hP5.same s6
    have hl6 := s6 _ _ (s5 _ _ hl4)
    have k6 : Keep p H H6 := k5.trans (Keep.of s6)
    have dC6 := dC.same s6
    have hcR : R ≠ pc := by
      obtain ⟨o, ho⟩ := hP5.has
      exact (ne_of_none ho hR).symm
    have nHR : ∀ o, H R ≠ some o := fun o e => by
      have nRp : R ≠ p := (hP5.ne' hR).symm
      rw [k5 _ _ nRp e] at hR
      cases hR
    have nlR : l ≠ R := ne_of_none (s5 _ _ hl4) hR
    have nlG : l ≠ G := ne_of_none (s5 _ _ hl4) hG5
    -- the reads
    dsimp only
    refine mid (fun σ' H' => ∃ (v6 v7 : Option V) (vs : List V) (rds : List RdM), σ' = [some (.ref p), some (.ref l), some (.str nm), some (.ref C), some (.ref R), some (.ref G), v6, v7] ∧
      H' R = some (.lst vs) ∧ DTs H' vs (rds.map rdD) ∧ rds.length ≤ 3 ∧ (∀ r ∈ rds, RdOk r) ∧ H' G = some (.lst []) ∧ H' l = some (.lst (xs.map V.str)) ∧ PenC H' p pc (t + 30) ∧ TSame H6 H' ∧ (∀ b o, H b = some o → b ≠ p → H' b = some o)) (fun key => ?_) ?_
    · refine ⟨_, rfl, p, 4, t + 4, pc, rfl, by decide, by decide, by omega, hP6, fun H7 n n0 n4 hP7 k7 => ?_⟩
      obtain ⟨n, rfl, hn⟩ := drawn n0 n4
      refine ⟨(n : Int), rfl, by omega, by omega, ?_⟩
      rw [Int.toNat_natCast]
      have kR := k7 _ _ (hP6.ne hR6 fun _ z => by cases z) hR6
      have kG := k7 _ _ (hP6.ne hG6 fun _ z => by cases z) hG6
      have kl := k7 _ _ (hP6.ne hl6 fun _ z => by cases z) hl6
      refine for_range (lo := 0) (n := n) (fun i σ' H' => ∃ (v6 v7 : Option V) (vs : List V) (rds : List RdM), σ' = [some (.ref p), some (.ref l), some (.str nm), some (.ref C), some (.ref R), some (.ref G), v6, v7] ∧
        H' R = some (.lst vs) ∧ DTs H' vs (rds.map rdD) ∧ rds.length = i ∧ (∀ r ∈ rds, RdOk r) ∧ H' G = some (.lst []) ∧ H' l = some (.lst (xs.map V.str)) ∧ PenC H' p pc (t + 5 + i * 6) ∧ TSame H6 H' ∧ (∀ b o, H b = some o → b ≠ p → H' b = some o)) ?_ ?_ ?_
      · exact ⟨none, none, [], [], rfl, kR, .nil, rfl, (fun _ h => by cases h), kG, kl, hP7, .keepC hP6 k7, fun b o e nb => (k6.trans k7) b o nb e⟩
      · rintro i σ H8 hi ⟨v6, v7, vs, rds, rfl, eR, dR, lR, okR, eG, el, hP8, ts8, kk⟩
        refine normG (σ' := [some (.ref p), some (.ref l), some (.str nm), some (.ref C), some (.ref R), some (.ref G), some (.int (0 + (i : Int))), v7]) rfl ?_
        refine ⟨_, rfl, p, 4, t + 5 + i * 6, pc, rfl, by decide, by decide, by omega, hP8, fun H9 a9 a0 a1 hP9 k9 => ⟨_, _, rfl, rfl, ?_⟩⟩
        refine ⟨_, rfl, p, 3, t + 5 + i * 6 + 1, pc, rfl, by decide, by decide, by omega, hP9, fun HA b9 b0 b1 hPA kA => ⟨_, _, rfl, rfl, ?_⟩⟩
        refine ⟨_, rfl, p, 5, t + 5 + i * 6 + 2, pc, rfl, by decide, by decide, by omega, hPA, fun HB c9 c0 c1 hPB kB => ⟨_, _, rfl, rfl, sz3, fun U hU => ?_⟩⟩
        refine normG (σ' := [some (.ref p), some (.ref l), some (.str nm), some (.ref C), some (.ref R), some (.ref G), some (.int (0 + (i : Int))), some (.ref U)]) rfl ?_
        have k8B := k9.trans (kA.trans kB)
        obtain ⟨HC, eHC⟩ : ∃ L, L = upd HB U (.tup [.int (a9 - 1), .int (b9 - 1), .int (c9 - 2)]) := ⟨_, rfl⟩
        have sC : Same HB HC := by rw [eHC]; exact Same.new _ (Same.refl HB) hU
        have hUC : HC U = some (.tup [.int (a9 - 1), .int (b9 - 1), .int (c9 - 2)]) := by rw [eHC]; exact upd_same
        rw [← eHC]
        refine ⟨_, rfl, sz5, fun W5 hW5 => ?_⟩
        have hPC := hPB.same sC
        have sD := Same.new (.lst [.int 1, .int 1, .int 1, .int 2, .int 3]) (Same.refl HC) hW5
        refine ⟨_, rfl, p, 5, t + 5 + i * 6 + 3, pc, rfl, by decide, by decide, by omega, hPC.same sD, fun HD d d0 d1 hPD kD => ?_⟩
        obtain ⟨j, rfl, hj⟩ := drawn (n := 5) d0 d1
        have eW := (hPC.same sD).lst kD (upd_same (H := HC) (a := W5))
        obtain ⟨v, hv⟩ : ∃ v, ([.int 1, .int 1, .int 1, .int 2, .int 3] : List V)[j]? = some v := ⟨_, List.getElem?_eq_getElem hj⟩
        obtain ⟨dv, rfl, d1', d3'⟩ := five j v hv
        refine ⟨W5, _, _, _, rfl, rfl, SqL.of eW, atI_nat hv, sz1, fun V1 hV1 => ?_⟩
        have eU : HD U = some (.tup [.int (a9 - 1), .int (b9 - 1), .int (c9 - 2)]) := (hPC.same sD).tup kD (sD _ _ hUC)
        have sE := Same.new (.tup [.int dv]) (Same.refl HD) hV1
        refine ⟨U, V1, _, _, rfl, rfl, SqT.of (sE _ _ eU), SqT.of upd_same, List.cons_ne_nil _ _, sz4, (fun z => by cases z), fun _ P4 hP4 => ?_⟩
        obtain ⟨HE, eHE⟩ : ∃ L, L = upd (upd HD V1 (.tup [.int dv])) P4 (.tup ([.int (a9 - 1), .int (b9 - 1), .int (c9 - 2)] ++ [.int dv])) := ⟨_, rfl⟩
        have sF : Same HD HE := by rw [eHE]; exact Same.new _ sE hP4
        have e4 : HE P4 = some (.tup [.int (a9 - 1), .int (b9 - 1), .int (c9 - 2), .int dv]) := by rw [eHE]; exact upd_same
        rw [← eHE]
        refine normG (σ' := [some (.ref p), some (.ref l), some (.str nm), some (.ref C), some (.ref R), some (.ref G), some (.int (0 + (i : Int))), some (.ref P4)]) rfl ?_
        have k8C : Keep p H8 HC := k8B.trans (Keep.of sC)
        have k8E : Keep p H8 HE := k8C.trans ((Keep.of sD).trans (kD.trans (Keep.of sF)))
        have hPE := hPD.same sF
        have eRE := hP8.lst k8E eR
        have elE := hP8.lst k8E el
        refine ⟨_, rfl, .inl ⟨rfl, _, SqL.of eRE⟩, _, rfl, _, rfl, p, pc, l, _, t + 5 + i * 6 + 4, rfl, elE, by omega, by omega, by omega, hPE, fun HF x2 hx2 hPF kF => ?_⟩
        obtain ⟨nm2, hnm2, rfl⟩ := List.mem_map.mp hx2
        refine ⟨_, rfl, _, rfl, _, rfl, _, rfl, sz8, fun W8 hW8 => ?_⟩
        have sG := Same.new (.lst [.int 1, .int 1, .int (-1), .int 2, .int 3, .int (-2), .int 999, .int (-999)]) (Same.refl HF) hW8
        refine ⟨_, rfl, p, 8, t + 5 + i * 6 + 5, pc, rfl, by decide, by decide, by omega, hPF.same sG, fun HG q q0 q1 hPG kG => ?_⟩
        obtain ⟨j2, rfl, hj2⟩ := drawn (n := 8) q0 q1
        have eW8 := (hPF.same sG).lst kG (upd_same (H := HF) (a := W8))
        obtain ⟨v8, hv8⟩ : ∃ v, ([.int 1, .int 1, .int (-1), .int 2, .int 3, .int (-2), .int 999, .int (-999)] : List V)[j2]? = some v := ⟨_, List.getElem?_eq_getElem hj2⟩
        obtain ⟨fv, rfl, f0, f1, f2⟩ := eight j2 v8 hv8
        refine ⟨W8, _, _, _, rfl, rfl, SqL.of eW8, atI_nat hv8, sz3, fun TT hTT => ?_⟩
        have kEG : Keep p HE HG := kF.trans ((Keep.of sG).trans kG)
        have k8G : Keep p H8 HG := k8E.trans kEG
        have eRG := hP8.lst k8G eR
        have sH := Same.new (.tup [.str nm2, .ref P4, .int fv]) (Same.refl HG) hTT
        have e4G := sH _ _ (hPE.tup kEG e4)
        have ts8G : TSame H8 (upd HG TT (.tup [.str nm2, .ref P4, .int fv])) := (TSame.keepC hP8 k8G).trans (.of sH)
        have eRH := sH _ _ eRG
        have lvs : vs.length < sizeLine := sz1l _ (by rw [dR.len, List.length_map]; omega)
        refine ⟨R, _, _, rfl, rfl, eRH, lvs, ?_⟩
        have tsU : TSame (upd HG TT (.tup [.str nm2, .ref P4, .int fv])) (upd (upd HG TT (.tup [.str nm2, .ref P4, .int fv])) R (.lst (vs ++ [.ref TT]))) := .updL eRH
        have nTR : TT ≠ R := fun z => by
          rw [z, eRG] at hTT
          cases hTT
        have nGR2 : G ≠ R := nGR
        refine ⟨_, _, vs ++ [.ref TT], rds ++ [⟨nm2, a9 - 1, b9 - 1, c9 - 2, dv, fv⟩], rfl, upd_same, ?_, ?_, ?_, ?_, ?_, ?_, ?_, ?_⟩
        · refine ((dR.to ts8G).to tsU).snoc ?_
          refine .tup (tsU _ _ upd_same) (.cons (.str _) (.cons (.tup (tsU _ _ e4G) (.cons (.int _) (.cons (.int _) (.cons (.int _) (.cons (.int _) .nil))))) (.cons (.int _) .nil)))
        · rw [List.length_append, lR]
          rfl
        · intro r hr2
          rcases List.mem_append.mp hr2 with z | z
          · exact okR r z
          · rw [List.mem_singleton.mp z]
            refine ⟨nx _ hnm2, ?_, d1', d3', f0, f1, f2⟩
            show sm3 (a9 - 1) (b9 - 1) (c9 - 2)
            unfold sm3
            omega
        · rw [upd_ne nGR]
          exact sH _ _ (hP8.lst k8G eG)
        · rw [upd_ne nlR]
          exact sH _ _ (hP8.lst k8G el)
        · have pR : PenC (upd HG TT (.tup [.str nm2, .ref P4, .int fv])) p pc (t + 5 + (i + 1) * 6) := (hPG.same sH).mono (by omega)
          exact pR.upd (pR.ne eRH fun _ z => by cases z) hcR (Nat.le_refl _)
        · exact ts8.trans (ts8G.trans tsU)
        · intro b o e nb
          have nbR : b ≠ R := fun z => by
            rw [z] at e
            exact nHR o e
          rw [upd_ne nbR]
          exact sH _ _ (k8G b o nb (kk b o e nb))
      · rintro σ H8 ⟨v6, v7, vs, rds, rfl, eR, dR, lR, okR, eG, el, hP8, ts8, kk⟩
        exact key _ _ ⟨_, _, vs, rds, rfl, eR, dR, by omega, okR, eG, el, hP8.mono (by omega), ts8, kk⟩
    rintro σ HJ ⟨v6, v7, vs, rds, rfl, eR, dR, lR, okR, eG, el, hPJ, tsJ, kk⟩
    have hcG : G ≠ pc := by
      obtain ⟨o, ho⟩ := hP5.has
      exact (ne_of_none ho hG5).symm
    have nHG : ∀ o, H G ≠ some o := fun o e => by
      have nGp : G ≠ p := (hP5.ne' hG5).symm
      rw [k5 _ _ nGp e] at hG5
      cases hG5
    -- the guards
    refine mid (fun σ' H' => ∃ (v6 v7 : Option V) (ws : List V) (gds : List Gd), σ' = [some (.ref p), some (.ref l), some (.str nm), some (.ref C), some (.ref R), some (.ref G), v6, v7] ∧
      H' G = some (.lst ws) ∧ DTs H' ws (gds.map gdD) ∧ gds.length ≤ 2 ∧ (∀ g ∈ gds, GdOk g) ∧ H' R = some (.lst vs) ∧ PenC H' p pc (t + 50) ∧ TSame HJ H' ∧ (∀ b o, H b = some o → b ≠ p → H' b = some o)) (fun key => ?_) ?_
    · refine ⟨sz6, fun W6 hW6 => ?_⟩
      have sA := Same.new (.lst [.int 0, .int 0, .int 0, .int 1, .int 1, .int 2]) (Same.refl HJ) hW6
      refine ⟨_, rfl, p, 6, t + 30, pc, rfl, by decide, by decide, by omega, hPJ.same sA, fun HK n n0 n6 hPK kK => ?_⟩
      obtain ⟨j, rfl, hj⟩ := drawn (n := 6) n0 n6
      have eW6 := (hPJ.same sA).lst kK (upd_same (H := HJ) (a := W6))
      obtain ⟨v6', hv6⟩ : ∃ v, ([.int 0, .int 0, .int 0, .int 1, .int 1, .int 2] : List V)[j]? = some v := ⟨_, List.getElem?_eq_getElem hj⟩
      obtain ⟨n, rfl, hn⟩ := six j v6' hv6
      refine ⟨W6, _, _, _, rfl, rfl, SqL.of eW6, atI_nat hv6, (n : Int), rfl, by omega, by omega, ?_⟩
      rw [Int.toNat_natCast]
      have kJK : Keep p HJ HK := (Keep.of sA).trans kK
      refine for_range (lo := 0) (n := n) (fun i σ' H' => ∃ (v6 v7 : Option V) (ws : List V) (gds : List Gd), σ' = [some (.ref p), some (.ref l), some (.str nm), some (.ref C), some (.ref R), some (.ref G), v6, v7] ∧
        H' G = some (.lst ws) ∧ DTs H' ws (gds.map gdD) ∧ gds.length = i ∧ (∀ g ∈ gds, GdOk g) ∧ H' R = some (.lst vs) ∧ PenC H' p pc (t + 31 + i * 6) ∧ TSame HJ H' ∧ (∀ b o, H b = some o → b ≠ p → H' b = some o)) ?_ ?_ ?_
      · exact ⟨_, _, [], [], rfl, hPJ.lst kJK eG, .nil, rfl, (fun _ h => by cases h), hPJ.lst kJK eR, hPK, .keepC hPJ kJK, fun b o e nb => kJK b o nb (kk b o e nb)⟩
      · rintro i σ H8 hi ⟨v6, v7, ws, gds, rfl, eG8, dG, lG, okG, eR8, hP8, ts8, kk8⟩
        refine normG (σ' := [some (.ref p), some (.ref l), some (.str nm), some (.ref C), some (.ref R), some (.ref G), some (.int (0 + (i : Int))), v7]) rfl ?_
        refine ⟨_, rfl, .inl ⟨rfl, _, SqL.of eG8⟩, _, rfl, p, pc, t + 31 + i * 6, rfl, by omega, hP8, fun H9 v g gok dg hP9 k9 => ?_⟩
        have eG9 := hP8.lst k9 eG8
        have lws : ws.length < sizeLine := sz1l _ (by rw [dG.len, List.length_map]; omega)
        refine ⟨G, _, _, rfl, rfl, eG9, lws, ?_⟩
        have tsU : TSame H9 (upd H9 G (.lst (ws ++ [v]))) := .updL eG9
        refine ⟨_, _, ws ++ [v], gds ++ [g], rfl, upd_same, ((dG.keepC hP8 k9).to tsU).snoc (dg.to tsU), ?_, ?_, ?_, ?_, ts8.trans ((TSame.keepC hP8 k9).trans tsU), ?_⟩
        · rw [List.length_append, lG]
          rfl
        · intro g' hg
          rcases List.mem_append.mp hg with z | z
          · exact okG g' z
          · rw [List.mem_singleton.mp z]
            exact gok
        · rw [upd_ne nGR.symm]
          exact hP8.lst k9 eR8
        · exact hP9.upd (hP9.ne eG9 fun _ z => by cases z) hcG (by omega)
        · intro b o e nb
          have nbG : b ≠ G := fun z => by
            rw [z] at e
            exact nHG o e
          rw [upd_ne nbG]
          exact k9 b o nb (kk8 b o e nb)
      · rintro σ H8 ⟨v6, v7, ws, gds, rfl, eG8, dG, lG, okG, eR8, hP8, ts8, kk8⟩
        exact key _ _ ⟨_, _, ws, gds, rfl, eG8, dG, by omega, okG, eR8, hP8.mono (by omega), ts8, kk8⟩
    rintro σ HK ⟨v6, v7, ws, gds, rfl, eG2, dG, lG, okG, eR2, hPK, tsK, kk2⟩
    refine ⟨_, rfl, _, rfl, _, rfl, _, rfl, p, pc, -9, 99, t + 50, rfl, by decide, by decide, by omega, hPK, fun HL kc kc0 kc1 hPL kL => ?_⟩
    have eR3 := hPK.lst kL eR2
    have eG3 := hPK.lst kL eG2
    refine ⟨_, rfl, R, _, rfl, .inl ⟨SqL.of eR3, fun TR hTR => ?_⟩⟩
    have sM := Same.new (.tup vs) (Same.refl HL) hTR
    refine ⟨_, rfl, G, _, rfl, .inl ⟨SqL.of (sM _ _ eG3), fun TG hTG => ?_⟩⟩
    have sN := Same.new (.tup ws) sM hTG
    refine ⟨sz5, fun TS hTS => ?_⟩
    have sO := Same.new (.tup [.str nm, .ref C, .int kc, .ref TR, .ref TG]) sN hTS
    have tsE : TSame HJ (upd (upd (upd HL TR (.tup vs)) TG (.tup ws)) TS (.tup [.str nm, .ref C, .int kc, .ref TR, .ref TG])) := tsK.trans ((TSame.keepC hPK kL).trans (.of sO))
    have eTG := Same.new (.tup [.str nm, .ref C, .int kc, .ref TR, .ref TG]) (Same.refl _) hTS _ _ (upd_same (H := upd HL TR (.tup vs)) (a := TG) (o := .tup ws))
    have eTR := Same.new (.tup [.str nm, .ref C, .int kc, .ref TR, .ref TG]) (Same.new (.tup ws) (Same.refl _) hTG) hTS _ _ (upd_same (H := HL) (a := TR) (o := .tup vs))
    refine k _ _ ⟨nm, a - 1, b - 1, c - 2, kc, rds, gds⟩ ⟨nx _ hnm, ?_, by omega, by omega, by omega, lG, okR, okG⟩ ?_ ((hPL.same sO).mono (by omega)) ?_
    · show sm3 (a - 1) (b - 1) (c - 2)
      unfold sm3
      omega
    · refine .tup upd_same (.cons (.str _) (.cons ((dC6.to tsJ).to tsE) (.cons (.int _) (.cons (.tup eTR (dR.to tsE)) (.cons (.tup eTG ((dG.to (.keepC hPK kL)).to (.of sO))) .nil)))))
    · exact fun b o nb e => sO _ _ (kL b o nb (kk2 b o e nb))
end
end K26
set_option maxHeartbeats 4000000
namespace K26
open PySem PySem.Spec PyProof.Rows L2 Z
theorem three2 : ∀ (j : Nat) (v : V), ([.int 1, .int 1, .int 2] : List V)[j]? = some v → ∃ d : Int, v = .int d ∧ 1 ≤ d ∧ d ≤ 2 := by
  intro j v h
  match j, h with
  | 0, h => exact ⟨_, (Option.some.inj h).symm, by decide, by decide⟩
  | 1, h => exact ⟨_, (Option.some.inj h).symm, by decide, by decide⟩
  | 2, h => exact ⟨_, (Option.some.inj h).symm, by decide, by decide⟩
  | j + 3, h => cases h
theorem four3 : ∀ (j : Nat) (v : V), ([.int 1, .int 1, .int 2, .int 3] : List V)[j]? = some v → ∃ d : Int, v = .int d ∧ 1 ≤ d ∧ d ≤ 3 := by
  intro j v h
  match j, h with
  | 0, h => exact ⟨_, (Option.some.inj h).symm, by decide, by decide⟩
  | 1, h => exact ⟨_, (Option.some.inj h).symm, by decide, by decide⟩
  | 2, h => exact ⟨_, (Option.some.inj h).symm, by decide, by decide⟩
  | 3, h => exact ⟨_, (Option.some.inj h).symm, by decide, by decide⟩
  | j + 4, h => cases h
theorem if_w2 {b : Bool} {A : Prop} {j : Int} {σ : L2.St} {H : Hp} {Q : VK} (W : Int → Hp → Prop) (h1 : b = true → (∀ v H', W v H' → Q (.int v) H') → A) (h2 : b = false → W j H) (h3 : ∀ v H', W v H' → Q (.int v) H') : if b = true then A else tC (.int j) σ H Q := by
  cases b
  · exact h3 _ _ (h2 rfl)
  · exact h1 rfl h3
def Nms (H : Hp) (l : Addr) (xs : List Str) : Prop := H l = some (.lst (xs.map V.str)) ∧ 1 ≤ xs.length ∧ xs.length ≤ 3 ∧ ∀ x ∈ xs, NmOk x
def spSLoop : Sp := fun vs H Q _ => ∃ (p pc l : Addr) (xs : List Str) (t : Nat), vs = [.ref p, .ref l, .int 3] ∧ Nms H l xs ∧ t < 700000000 ∧ PenC H p pc t ∧
  ∀ H' v lp, LpOk lp → DT H' v (lpD lp) → PenC H' p pc (t + 200) → Keep p H H' → Q v H'
section
variable {P : Program} {w : World} {K : PySem.W.Frag} {mg : Str → Option Value} {base : Heap}
theorem sc_law_small_loop : FnScope ["_law_pen_here", "_law_names_here", "_law_most", "_law_apart", "_law_low", "_law_high", "_law_inner", "_law_turn"] ["_law_pen_here", "_law_names_here", "_law_most"] (defScope s_law_small_loop) := ⟨rfl, rfl, rfl, by decide +kernel, rfl, by decide +kernel, by decide +kernel⟩
theorem ok_sloop {f : Addr} {fd : FuncData} (F : FnP K "_law_small_loop" s_law_small_loop f fd) (T : LwTx K mg) (dDraw : Dn P w K mg base 1 "_law_draw" ["_law_pen_here", "_law_many"] spDrawC)
    (dSStm : Dn P w K mg base 3 "_law_small_statement" ["_law_pen_here", "_law_names_here"] spSStm) :
    FnOk P w K mg base CX0 4 f fd ["_law_pen_here", "_law_names_here", "_law_most"] spSLoop := by
  refine F.ok sc_law_small_loop (fun vs H Q E h => ?_) (fun cdv A outer s H vs Q E hr h => ?_)
  · obtain ⟨p, pc, l, xs, t, rfl, _⟩ := h
    rfl
  · obtain ⟨p, pc, l, xs, t, rfl, ⟨hl, x1, x3, nx⟩, ht, hP, k⟩ := h
    refine ⟨_, PSs.nox (pss_cons (ps_set (i := 3) sc_law_small_loop.nd rfl (Or.inl rfl) (pe_ix ix_list (pe_lst (pa_cons pe_int (pa_cons pe_int (pa_cons pe_int (pa_cons pe_int (pa_cons pe_int pa_nil)))))) (pe_dn dDraw hr (pa_cons (pv 0) (pa_cons pe_int pa_nil))) (fun _ _ => rfl)))
      (pss_cons (ps_set (i := 4) sc_law_small_loop.nd rfl (Or.inl rfl) (pe_tup (pa_cons (pe_dn dDraw hr (pa_cons (pv 0) (pa_cons pe_int pa_nil))) (pa_cons (pe_op op_sub (pe_dn dDraw hr (pa_cons (pv 0) (pa_cons pe_int pa_nil))) pe_int) (pa_cons (pe_ifExp (pt_cmpR op_eq (pv 3) pe_int (nomark _)) (pe_ix ix_list (pe_lst (pa_cons pe_int (pa_cons pe_int (pa_cons pe_int pa_nil)))) (pe_dn dDraw hr (pa_cons (pv 0) (pa_cons pe_int pa_nil))) (fun _ _ => rfl)) pe_int) pa_nil)))))
      (pss_cons (ps_set (i := 5) sc_law_small_loop.nd rfl (Or.inl rfl) (pe_tup (pa_cons (pe_dn dDraw hr (pa_cons (pv 0) (pa_cons pe_int pa_nil))) (pa_cons (pe_op op_sub (pe_dn dDraw hr (pa_cons (pv 0) (pa_cons pe_int pa_nil))) pe_int) (pa_cons (pe_ix ix_list (pe_lst (pa_cons pe_int (pa_cons pe_int (pa_cons pe_int (pa_cons pe_int pa_nil))))) (pe_dn dDraw hr (pa_cons (pv 0) (pa_cons pe_int pa_nil))) (fun _ _ => rfl)) pa_nil)))))
      (pss_cons (ps_setLc (i := 6) (own := [("_law_turn", 7)]) (g := gName 7) (tt := tYes) rfl sc_law_small_loop.nd rfl rfl (sw_true rfl rfl rfl (by decide +kernel)) (pi_range1 (by rfl) T.range (pa_cons (pe_op op_add pe_int (pe_dn dDraw hr (pa_cons (pv 0) (pa_cons (pv 2) pa_nil)))) pa_nil)) (blkOk_by (N := ["_law_pen_here", "_law_names_here", "_law_most", "_law_apart", "_law_low", "_law_high", "_law_inner", "_law_turn"]) (sc := defScope s_law_small_loop) (by decide +kernel)) (fun _ _ _ _ _ => (pg_name (i := 7) sc_law_small_loop.nd rfl (.inl rfl))) (fun _ _ _ _ _ => pts_nil) (fun _ _ _ _ _ => (pe_dn dSStm hr (pa_cons (pv 0) (pa_cons (pv 1) pa_nil)))))
      (pss_one (ps_ret (pe_tup (pa_cons (pv 4) (pa_cons (pv 5) (pa_cons (pv 3) (pa_cons (pe_cmpR op_eq (pe_dn dDraw hr (pa_cons (pv 0) (pa_cons pe_int pa_nil))) pe_int (nomark _)) (pa_cons (pe_callTy call_tuple_of (by rfl) T.tuple (by decide +kernel) (pa_cons (pv 6) pa_nil)) pa_nil)))))))))))), ?_⟩
    refine ⟨sz5, fun W1 hW1 => ?_⟩
    have sA := Same.new (.lst [.int 1, .int 1, .int 1, .int 2, .int 3]) (Same.refl H) hW1
    refine ⟨_, rfl, p, 5, t, pc, rfl, by decide, by decide, by omega, hP.same sA, fun H1 d d0 d1 hP1 k1 => ?_⟩
    obtain ⟨j, rfl, hj⟩ := drawn (n := 5) d0 d1
    obtain ⟨v, hv⟩ : ∃ v, ([.int 1, .int 1, .int 1, .int 2, .int 3] : List V)[j]? = some v := ⟨_, List.getElem?_eq_getElem hj⟩
    obtain ⟨S, rfl, S1, S3⟩ := five j v hv
    refine ⟨W1, _, _, _, rfl, rfl, SqL.of ((hP.same sA).lst k1 upd_same), atI_nat hv, ?_⟩
    refine normG (σ' := [some (.ref p), some (.ref l), some (.int 3), some (.int S), none, none, none, none]) rfl ?_
    have kA : Keep p H H1 := (Keep.of sA).trans k1
    refine ⟨_, rfl, p, 2, t + 1, pc, rfl, by decide, by decide, by omega, hP1, fun H2 a a0 a1 hP2 k2 => ?_⟩
    refine ⟨_, rfl, p, 6, t + 2, pc, rfl, by decide, by decide, by omega, hP2, fun H3 b b0 b1 hP3 k3 => ⟨_, _, rfl, rfl, ?_⟩⟩
    have kB := kA.trans (k2.trans k3)
    refine ⟨_, rfl, rfl, _, rfl, ?_⟩
    refine if_w2 (fun d H' => 1 ≤ d ∧ d ≤ 2 ∧ (S = 1 ∨ d = 1) ∧ PenC H' p pc (t + 4) ∧ Keep p H H') (fun hb key => ?_) (fun _ => ⟨by decide, by decide, .inr rfl, hP3.mono (by omega), kB⟩) (fun d H4 hd => ?_)
    · refine ⟨sz3, fun W2 hW2 => ?_⟩
      have sW := Same.new (.lst [.int 1, .int 1, .int 2]) (Same.refl H3) hW2
      refine ⟨_, rfl, p, 3, t + 3, pc, rfl, by decide, by decide, by omega, hP3.same sW, fun H4 d d0 d1 hP4 k4 => ?_⟩
      obtain ⟨j, rfl, hj⟩ := drawn (n := 3) d0 d1
      obtain ⟨v, hv⟩ : ∃ v, ([.int 1, .int 1, .int 2] : List V)[j]? = some v := ⟨_, List.getElem?_eq_getElem hj⟩
      obtain ⟨d, rfl, e1, e2⟩ := three2 j v hv
      refine ⟨W2, _, _, _, rfl, rfl, SqL.of ((hP3.same sW).lst k4 upd_same), atI_nat hv, ?_⟩
      exact key _ _ ⟨e1, e2, .inl (V.int.inj (of_decide_eq_true hb)), hP4.mono (by omega), kB.trans ((Keep.of sW).trans k4)⟩
    obtain ⟨e1, e2, hSd, hP4, k4⟩ := hd
    refine ⟨sz3, fun TL hTL => ?_⟩
    obtain ⟨H5, eH5⟩ : ∃ L, L = upd H4 TL (.tup [.int a, .int (b - 3), .int d]) := ⟨_, rfl⟩
    have s5 : Same H4 H5 := by rw [eH5]; exact Same.new _ (Same.refl H4) hTL
    have dL : DT H5 (.ref TL) (i3 a (b - 3) d) := by rw [eH5]; exact gd3 upd_same
    rw [← eH5]
    have hP5 := hP4.same s5
    refine normG (σ' := [some (.ref p), some (.ref l), some (.int 3), some (.int S), some (.ref TL), none, none, none]) rfl ?_
    refine ⟨_, rfl, p, 3, t + 4, pc, rfl, by decide, by decide, by omega, hP5, fun H6 x y0 y1 hP6 k6 => ?_⟩
    refine ⟨_, rfl, p, 6, t + 5, pc, rfl, by decide, by decide, by omega, hP6, fun H7 z z0 z1 hP7 k7 => ⟨_, _, rfl, rfl, ?_⟩⟩
    refine ⟨sz4, fun W3 hW3 => ?_⟩
    have sW3 := Same.new (.lst [.int 1, .int 1, .int 2, .int 3]) (Same.refl H7) hW3
    refine ⟨_, rfl, p, 4, t + 6, pc, rfl, by decide, by decide, by omega, hP7.same sW3, fun H8 u u0 u1 hP8 k8 => ?_⟩
    obtain ⟨j3, rfl, hj3⟩ := drawn (n := 4) u0 u1
    obtain ⟨v3, hv3⟩ : ∃ v, ([.int 1, .int 1, .int 2, .int 3] : List V)[j3]? = some v := ⟨_, List.getElem?_eq_getElem hj3⟩
    obtain ⟨u, rfl, g1, g2⟩ := four3 j3 v3 hv3
    refine ⟨W3, _, _, _, rfl, rfl, SqL.of ((hP7.same sW3).lst k8 upd_same), atI_nat hv3, sz3, fun TH hTH => ?_⟩
    obtain ⟨H9, eH9⟩ : ∃ L, L = upd H8 TH (.tup [.int x, .int (z - 1), .int u]) := ⟨_, rfl⟩
    have s9 : Same H8 H9 := by rw [eH9]; exact Same.new _ (Same.refl H8) hTH
    have dH : DT H9 (.ref TH) (i3 x (z - 1) u) := by rw [eH9]; exact gd3 upd_same
    rw [← eH9]
    have hP9 := hP8.same s9
    have k59 : Keep p H5 H9 := k6.trans (k7.trans ((Keep.of sW3).trans (k8.trans (Keep.of s9))))
    have dL9 := dL.keepC hP5 k59
    have k09 : Keep p H H9 := k4.trans ((Keep.of s5).trans k59)
    have hl9 := hP.lst k09 hl
    refine normG (σ' := [some (.ref p), some (.ref l), some (.int 3), some (.int S), some (.ref TL), some (.ref TH), none, none]) rfl ?_
    refine ⟨_, rfl, _, rfl, p, 3, t + 7, pc, rfl, by decide, by decide, by omega, hP9, fun HA m m0 m1 hPA kA2 => ⟨_, _, rfl, rfl, ?_⟩⟩
    obtain ⟨n, hn⟩ : ∃ n : Nat, (n : Int) = 1 + m := ⟨(1 + m).toNat, by omega⟩
    refine ⟨(n : Int), congrArg (fun z => [V.int z]) hn.symm, by omega, by omega, ?_⟩
    rw [Int.toNat_natCast]
    have k0A : Keep p H HA := k09.trans kA2
    have hlA := hP.lst k0A hl
    intro D hD
    have hcD : D ≠ pc := by
      obtain ⟨o, ho⟩ := hPA.has
      exact (ne_of_none ho hD).symm
    have nHD : ∀ o, H D ≠ some o := fun o e => by
      have nDp : D ≠ p := (hPA.ne' hD).symm
      rw [k0A _ _ nDp e] at hD
      cases hD
    refine lc_range (lo := 0) (n := n) (fun i Hc => ∃ (vs : List V) (sts : List StM), Hc D = some (.lst vs) ∧ DTs Hc vs (sts.map stD) ∧ sts.length = i ∧ (∀ s ∈ sts, StOk s) ∧ PenC Hc p pc (t + 8 + i * 60) ∧ TSame HA Hc ∧ (∀ b o, H b = some o → b ≠ p → Hc b = some o)) ?_ ?_ ?_
    · exact ⟨[], [], upd_same, .nil, rfl, (fun _ h => by cases h), hPA.same (Same.new _ (Same.refl HA) hD), .new hD, fun b o e nb => Same.new _ (Same.refl HA) hD _ _ (k0A b o nb e)⟩
    · rintro i Hc hi ⟨vs, sts, eD, dD, lD, okD, hPc, tsc, kc⟩
      refine ⟨rfl, yes_of ?_⟩
      refine ⟨_, rfl, _, rfl, p, pc, l, xs, t + 8 + i * 60, rfl, kc _ _ hl (hP.ne hl fun _ z => by cases z), x1, x3, nx, by omega, hPc, fun H' v s sok dv hP' k' => ?_⟩
      have eD' := hPc.lst k' eD
      have tsU : TSame H' (upd H' D (.lst (vs ++ [v]))) := .updL eD'
      refine ⟨vs, eD', sz1l _ (by rw [dD.len, List.length_map]; omega), vs ++ [v], sts ++ [s], upd_same, ((dD.keepC hPc k').to tsU).snoc (dv.to tsU), ?_, ?_, ?_, tsc.trans ((TSame.keepC hPc k').trans tsU), ?_⟩
      · rw [List.length_append, lD]
        rfl
      · intro s' hs'
        rcases List.mem_append.mp hs' with z | z
        · exact okD s' z
        · rw [List.mem_singleton.mp z]
          exact sok
      · exact hP'.upd (hP'.ne eD' fun _ z => by cases z) hcD (by omega)
      · intro b o e nb
        have nbD : b ≠ D := fun z => by
          rw [z] at e
          exact nHD o e
        rw [upd_ne nbD]
        exact k' b o nb (kc b o e nb)
    rintro HB ⟨vs, sts, eD, dD, lD, okD, hPB, tsB, kB2⟩
    refine normG (σ' := [some (.ref p), some (.ref l), some (.int 3), some (.int S), some (.ref TL), some (.ref TH), some (.ref D), none]) rfl ?_
    refine ⟨_, rfl, _, rfl, _, rfl, ?_⟩
    refine ⟨_, rfl, p, 3, t + 8 + n * 60, pc, rfl, by decide, by decide, by omega, hPB, fun HE w w0 w1 hPE kE => ?_⟩
    have eDE := hPB.lst kE eD
    refine ⟨rfl, _, rfl, D, vs, rfl, .inl ⟨SqL.of eDE, fun TT hTT => ⟨sz5, fun TR hTR => ?_⟩⟩⟩
    have sF := Same.new (.tup [.ref TL, .ref TH, .int S, .bl (decide (V.int w = V.int 0)), .ref TT]) (Same.new (.tup vs) (Same.refl HE) hTT) hTR
    have eTT := Same.new (.tup [.ref TL, .ref TH, .int S, .bl (decide (V.int w = V.int 0)), .ref TT]) (Same.refl _) hTR _ _ (upd_same (H := HE) (a := TT) (o := .tup vs))
    have tsE := (TSame.keepC hPB kE).trans (TSame.of sF)
    have ts9 := (TSame.keepC hP9 kA2).trans (tsB.trans tsE)
    refine k _ _ ⟨a, b - 3, d, x, z - 1, u, S, decide (V.int w = V.int 0), sts⟩ ?_ (.tup upd_same (.cons (dL9.to ts9) (.cons (dH.to ts9) (.cons (.int _) (.cons (.bl _) (.cons (.tup eTT (dD.to tsE)) .nil)))))) ((hPE.same sF).mono (by omega)) ?_
    · refine ⟨a0, by show a ≤ 1; omega, by show -3 ≤ b - 3; omega, by show b - 3 ≤ 2; omega, e1, e2, y0, by show x ≤ 2; omega, by show -1 ≤ z - 1; omega, by show z - 1 ≤ 4; omega, g1, g2, S1, S3, ?_, by show 1 ≤ sts.length; omega, by show sts.length ≤ 3; omega, okD⟩
      intro h
      have h' : 1 < S := h
      rcases hSd with q | q
      · omega
      · exact q
    · exact fun b' o nb e => sF _ _ (kE b' o nb (kB2 b' o e nb))
end
end K26
set_option maxHeartbeats 4000000
namespace K26
open PySem PySem.Spec PyProof.Rows L2 Z
def spSRows : Sp := fun vs H Q _ => ∃ (p pc : Addr) (L : Nat) (t : Nat), vs = [.ref p, .int (L : Int), .int 3] ∧ 1 ≤ L ∧ L ≤ 3 ∧ t < 600000000 ∧ PenC H p pc t ∧
  ∀ (H' : Hp) (r : Addr) (vs : List V) (lps : List LpM), H' r = some (.lst vs) → DTs H' vs (lps.map lpD) → lps.length = L → (∀ l ∈ lps, LpOk l) → PenC H' p pc (t + 700) → Keep p H H' → H r = none → Q (.ref r) H'
section
variable {P : Program} {w : World} {K : PySem.W.Frag} {mg : Str → Option Value} {base : Heap}
theorem sc_law_small_rows : FnScope ["_law_pen_here", "_law_loops", "_law_most", "_law_names_here", "_law_turn"] ["_law_pen_here", "_law_loops", "_law_most"] (defScope s_law_small_rows) := ⟨rfl, rfl, rfl, by decide +kernel, rfl, by decide +kernel, by decide +kernel⟩
theorem ok_srows {f : Addr} {fd : FuncData} (F : FnP K "_law_small_rows" s_law_small_rows f fd) (T : LwTx K mg) (dDraw : Dn P w K mg base 1 "_law_draw" ["_law_pen_here", "_law_many"] spDrawC)
    (dNames : Dn P w K mg base 3 "_law_names" ["_law_pen_here", "_law_many"] spNames) (dSLoop : Dn P w K mg base 4 "_law_small_loop" ["_law_pen_here", "_law_names_here", "_law_most"] spSLoop) :
    FnOk P w K mg base CX0 5 f fd ["_law_pen_here", "_law_loops", "_law_most"] spSRows := by
  refine F.ok sc_law_small_rows (fun vs H Q E h => ?_) (fun cdv A outer s H vs Q E hr h => ?_)
  · obtain ⟨p, pc, L, t, rfl, _⟩ := h
    rfl
  · obtain ⟨p, pc, L, t, rfl, L1, L3, ht, hP, k⟩ := h
    refine ⟨_, PSs.nox (pss_cons (ps_set (i := 3) sc_law_small_rows.nd rfl (Or.inr rfl) (pe_dn dNames hr (pa_cons (pv 0) (pa_cons (pe_op op_add pe_int (pe_dn dDraw hr (pa_cons (pv 0) (pa_cons pe_int pa_nil)))) pa_nil))))
      (pss_one (ps_ret (pe_lc (own := [("_law_turn", 4)]) (g := gName 4) (tt := tYes) rfl sc_law_small_rows.nd (pi_range1 (by rfl) T.range (pa_cons (pv 1) pa_nil)) (blkOk_by (N := ["_law_pen_here", "_law_loops", "_law_most", "_law_names_here", "_law_turn"]) (sc := defScope s_law_small_rows) (by decide +kernel)) (fun _ _ _ _ _ => (pg_name (i := 4) sc_law_small_rows.nd rfl (.inl rfl))) (fun _ _ _ _ _ => pts_nil) (fun _ _ _ _ _ => (pe_dn dSLoop hr (pa_cons (pv 0) (pa_cons (pv 3) (pa_cons (pv 2) pa_nil))))))))), ?_⟩
    refine ⟨_, rfl, _, rfl, p, 3, t, pc, rfl, by decide, by decide, by omega, hP, fun H1 m m0 m1 hP1 k1 => ⟨_, _, rfl, rfl, ?_⟩⟩
    refine ⟨p, pc, 1 + m, t + 1, rfl, by omega, by omega, by omega, hP1, fun H2 l xs hl x1 x3 nx hP2 k2 => ?_⟩
    refine normG (σ' := [some (.ref p), some (.int (L : Int)), some (.int 3), some (.ref l), none]) rfl ?_
    have k02 : Keep p H H2 := k1.trans k2
    refine ⟨_, rfl, (L : Int), rfl, by omega, by omega, ?_⟩
    rw [Int.toNat_natCast]
    intro D hD
    have hcD : D ≠ pc := by
      obtain ⟨o, ho⟩ := hP2.has
      exact (ne_of_none ho hD).symm
    have nHD : ∀ o, H D ≠ some o := fun o e => by
      have nDp : D ≠ p := (hP2.ne' hD).symm
      rw [k02 _ _ nDp e] at hD
      cases hD
    have nlD : l ≠ D := ne_of_none hl hD
    refine lc_range (lo := 0) (n := L) (fun i Hc => ∃ (vs : List V) (lps : List LpM), Hc D = some (.lst vs) ∧ DTs Hc vs (lps.map lpD) ∧ lps.length = i ∧ (∀ l ∈ lps, LpOk l) ∧ Nms Hc l xs ∧ PenC Hc p pc (t + 10 + i * 200) ∧ (∀ b o, H b = some o → b ≠ p → Hc b = some o)) ?_ ?_ ?_
    · exact ⟨[], [], upd_same, .nil, rfl, (fun _ h => by cases h), ⟨by rw [upd_ne nlD]; exact hl, x1, x3, nx⟩, (hP2.same (Same.new _ (Same.refl H2) hD)).mono (by omega), fun b o e nb => Same.new _ (Same.refl H2) hD _ _ (k02 b o nb e)⟩
    · rintro i Hc hi ⟨vs, lps, eD, dD, lD, okD, hn, hPc, kc⟩
      refine ⟨rfl, yes_of ?_⟩
      refine ⟨_, rfl, _, rfl, _, rfl, p, pc, l, xs, t + 10 + i * 200, rfl, hn, by omega, hPc, fun H' v lp lok dv hP' k' => ?_⟩
      have eD' := hPc.lst k' eD
      have tsU : TSame H' (upd H' D (.lst (vs ++ [v]))) := .updL eD'
      refine ⟨vs, eD', sz1l _ (by rw [dD.len, List.length_map]; omega), vs ++ [v], lps ++ [lp], upd_same, ((dD.keepC hPc k').to tsU).snoc (dv.to tsU), ?_, ?_, ⟨?_, hn.2⟩, ?_, ?_⟩
      · rw [List.length_append, lD]
        rfl
      · intro s' hs'
        rcases List.mem_append.mp hs' with z | z
        · exact okD s' z
        · rw [List.mem_singleton.mp z]
          exact lok
      · rw [upd_ne nlD]
        exact hPc.lst k' hn.1
      · exact hP'.upd (hP'.ne eD' fun _ z => by cases z) hcD (by omega)
      · intro b o e nb
        have nbD : b ≠ D := fun z => by
          rw [z] at e
          exact nHD o e
        rw [upd_ne nbD]
        exact k' b o nb (kc b o e nb)
    rintro HB ⟨vs, lps, eD, dD, lD, okD, hn, hPB, kB2⟩
    refine k _ D vs lps eD dD lD okD (hPB.mono (by omega)) (fun b o nb e => kB2 b o e nb) ?_
    cases hh : H D with
    | none => rfl
    | some o => exact absurd hh (nHD o)
end
section
variable {α : Type} {R R' : V → α → Prop} {vs : List V} {ms : List α} {v : V} {m : α}
def Fa (R : V → α → Prop) (vs : List V) (ms : List α) : Prop := vs.length = ms.length ∧ ∀ (i : Nat) (v : V) (m : α), vs[i]? = some v → ms[i]? = some m → R v m
theorem Fa.nil : Fa R [] [] := ⟨rfl, fun i v m h => by cases h⟩
theorem Fa.imp (h : Fa R vs ms) (k : ∀ v m, R v m → R' v m) : Fa R' vs ms := ⟨h.1, fun i v m a b => k v m (h.2 i v m a b)⟩
theorem Fa.at (h : Fa R vs ms) {i : Nat} (e : vs[i]? = some v) : ∃ m, ms[i]? = some m ∧ R v m := by
  obtain ⟨m, hm⟩ := zip_at h.1 e
  exact ⟨m, hm, h.2 i v m e hm⟩
theorem Fa.at' (h : Fa R vs ms) {i : Nat} (e : ms[i]? = some m) : ∃ v, vs[i]? = some v ∧ R v m := by
  have hi : i < ms.length := (List.getElem?_eq_some_iff.mp e).1
  have e2 := List.getElem?_eq_getElem (l := vs) (i := i) (by rw [h.1]; exact hi)
  exact ⟨_, e2, h.2 i _ m e2 e⟩
theorem Fa.snoc (h : Fa R vs ms) (k : R v m) : Fa R (vs ++ [v]) (ms ++ [m]) := by
  refine ⟨by rw [List.length_append, List.length_append, h.1]; rfl, fun i v' m' a b => ?_⟩
  by_cases hi : i < vs.length
  · rw [List.getElem?_append_left hi] at a
    rw [List.getElem?_append_left (by rw [← h.1]; exact hi)] at b
    exact h.2 i v' m' a b
  · have hl : i < (vs ++ [v]).length := (List.getElem?_eq_some_iff.mp a).1
    rw [List.length_append, List.length_singleton] at hl
    have e : i = vs.length := by omega
    subst e
    rw [List.getElem?_append_right (Nat.le_refl _), Nat.sub_self] at a
    rw [h.1, List.getElem?_append_right (Nat.le_refl _), Nat.sub_self] at b
    cases a
    cases b
    exact k
end
section
variable (K : PySem.W.Frag)
def GdOb (H : Hp) (v : V) : Gd → Prop
  | .lea a b c => ∃ p, v = .ref p ∧ AtlAt K H p (a.fdiv (g2 a b)) (b.fdiv (g2 a b)) (lf3 a b c)
  | .rst a b c m r => ∃ p, v = .ref p ∧ RstAt K H p (a.fmod m) (b.fmod m) m ((r - c).fmod m)
def RdOb (H : Hp) (v : V) (r : RdM) : Prop := ∃ p a b c d, v = .ref p ∧ RdAt K H p r.x a b c d r.f ∧ -12 ≤ a ∧ a ≤ 12 ∧ -12 ≤ b ∧ b ≤ 12 ∧ 1 ≤ d ∧ d ≤ 3 ∧ ∀ i n : Int, (a * i + b * n + c).fdiv d = (r.a * i + r.b * n + r.c).fdiv r.d
def StOb (H : Hp) (v : V) (s : StM) : Prop := ∃ p rs cs, v = .ref p ∧ StmAt K H p s.x s.a s.b s.c s.k rs cs ∧ Fa (RdOb K H) rs s.rds ∧ Fa (GdOb K H) cs s.gds
def RgF (t : P4) (a c d : Int) : Prop := t.1 = 0 ∧ 0 ≤ t.2.1 ∧ t.2.1 ≤ 3 ∧ -999 ≤ t.2.2.1 ∧ t.2.2.1 ≤ 999 ∧ 1 ≤ t.2.2.2 ∧ t.2.2.2 ≤ 3 ∧ ∀ n : Int, (t.2.1 * n + t.2.2.1).fdiv t.2.2.2 = (a * n + c).fdiv d
def LpOb (H : Hp) (v : V) (l : LpM) : Prop := ∃ p t u xs, v = .ref p ∧ LpAt K H p t u l.S l.dn xs ∧ RgF t l.l0 l.l1 l.l2 ∧ RgF u l.h0 l.h1 l.h2 ∧ Fa (StOb K H) xs l.sts
def PrOb (H : Hp) (v : V) (ls : List LpM) : Prop := ∃ p xs ys, v = .ref p ∧ PrAt K H p xs ys ∧ Fa (LpOb K H) xs ls
end
section
variable {K : PySem.W.Frag} {H H' : Hp} {v : V}
theorem ms_str {q : Addr} {a b c : Int} (s : MS H H') (h : StrAt K H q a b c) : StrAt K H' q a b c := by
  obtain ⟨dx, h⟩ := h
  exact ⟨dx, s _ _ h rfl⟩
theorem ms_plc {q : Addr} {a b c d : Int} (s : MS H H') (h : PlcAt K H q a b c d) : PlcAt K H' q a b c d := by
  obtain ⟨dx, q, h, h2⟩ := h
  exact ⟨dx, q, s _ _ h rfl, ms_str s h2⟩
theorem GdOb.ms {g : Gd} (h : GdOb K H v g) (s : MS H H') : GdOb K H' v g := by
  cases g with
  | lea a b c =>
    obtain ⟨p, e, dx, q, h1, h2⟩ := h
    exact ⟨p, e, dx, q, s _ _ h1 rfl, ms_str s h2⟩
  | rst a b c m r =>
    obtain ⟨p, e, dx, q, h1, h2⟩ := h
    exact ⟨p, e, dx, q, s _ _ h1 rfl, ms_str s h2⟩
theorem RdOb.ms {r : RdM} (h : RdOb K H v r) (s : MS H H') : RdOb K H' v r := by
  obtain ⟨p, a, b, c, d, e, ⟨dx, q, h1, h2⟩, k⟩ := h
  exact ⟨p, a, b, c, d, e, ⟨dx, q, s _ _ h1 rfl, ms_plc s h2⟩, k⟩
theorem StOb.ms {m : StM} (h : StOb K H v m) (s : MS H H') : StOb K H' v m := by
  obtain ⟨p, rs, cs, e, ⟨dx, q, r, g, h1, h2, h3, h4⟩, h5, h6⟩ := h
  exact ⟨p, rs, cs, e, ⟨dx, q, r, g, s _ _ h1 rfl, ms_str s h2, s.sqT h3, s.sqT h4⟩, h5.imp fun _ _ z => z.ms s, h6.imp fun _ _ z => z.ms s⟩
theorem LpOb.ms {l : LpM} (h : LpOb K H v l) (s : MS H H') : LpOb K H' v l := by
  obtain ⟨p, t, u, xs, e, ⟨dx, lo, hi, st, h1, h2, h3, h4⟩, h5, h6, h7⟩ := h
  exact ⟨p, t, u, xs, e, ⟨dx, lo, hi, st, s _ _ h1 rfl, ms_plc s h2, ms_plc s h3, s.sqT h4⟩, h5, h6, h7.imp fun _ _ z => z.ms s⟩
theorem PrOb.ms {ls : List LpM} (h : PrOb K H v ls) (s : MS H H') : PrOb K H' v ls := by
  obtain ⟨p, xs, ys, e, ⟨dx, l, a, d, h1, h2, h3⟩, h4⟩ := h
  exact ⟨p, xs, ys, e, ⟨dx, l, a, d, s _ _ h1 rfl, s.sqT h2, s.sqT h3⟩, h4.imp fun _ _ z => z.ms s⟩
theorem GdOb.same {g : Gd} (h : GdOb K H v g) (s : Same H H') : GdOb K H' v g := h.ms (.of s)
theorem RdOb.same {r : RdM} (h : RdOb K H v r) (s : Same H H') : RdOb K H' v r := h.ms (.of s)
theorem StOb.same {m : StM} (h : StOb K H v m) (s : Same H H') : StOb K H' v m := h.ms (.of s)
theorem LpOb.same {l : LpM} (h : LpOb K H v l) (s : Same H H') : LpOb K H' v l := h.ms (.of s)
theorem PrOb.same {ls : List LpM} (h : PrOb K H v ls) (s : Same H H') : PrOb K H' v ls := h.ms (.of s)
theorem pe_RK {X : Cx} {K : PySem.W.Frag} {e : Expr} {es : List Expr} {t : TA} {p pos : Pos} {k : Nat} {E : L2.St → XK} (hK : X.K = K) (T : AtTx K X.mg) (M : MkR X.prog X.w K X.mg X.base) (hr : Room k X.A) (hx : ∀ σ, PassesAt (L2.CX X.prog X.w) X σ (E σ)) (ha : PA X (e :: es) t) (hk : 5 ≤ k := by decide) (hg : Gl X "Rest" := by rfl)
    (he : starEach (e :: es) X.env = (false, eval e X.env) :: starEach es X.env := by rfl) (hpl : (backTo pos (starEach es X.env)).any (·.1) = false := by rfl) :
    PE X (.Call (.Name "Rest" p) (e :: es) [] pos) (fun σ H Q => t σ H fun vs H1 => ∃ v m r, vs = [v, .int m, .int r] ∧ rRst K v m r H1 (fun a b c => NewR K H1 (a.fmod m) (b.fmod m) m ((r - c).fmod m) Q) (E σ)) := by
  subst hK
  exact pe_R T M hr hx ha hk hg he hpl
end
theorem at3 {x y z u : V} {l : List V} : atI (x :: y :: z :: u :: l) 3 = some u := atI_nat (xs := x :: y :: z :: u :: l) (j := 3) rfl
theorem at4 {x y z u v : V} {l : List V} : atI (x :: y :: z :: u :: v :: l) 4 = some v := atI_nat (xs := x :: y :: z :: u :: v :: l) (j := 4) rfl
def spSum (K : PySem.W.Frag) : Sp := fun vs H Q _ => ∃ (q : Addr) (a b c : Int) (rest : List V), vs = [.ref q] ∧ H q = some (.tup (.int a :: .int b :: .int c :: rest)) ∧ ∀ r H', Same H H' → StrAt K H' r a b c → Q (.ref r) H'
def spMGuard (K : PySem.W.Frag) : Sp := fun vs H Q _ => ∃ (v : V) (g : Gd), vs = [v] ∧ DT H v (gdD g) ∧ GdOk g ∧ ∀ v' H', Same H H' → GdOb K H' v' g → Q v' H'
section
variable {P : Program} {w : World} {K : PySem.W.Frag} {mg : Str → Option Value} {base : Heap}
theorem sc_law_sum : FnScope ["_law_row"] ["_law_row"] (defScope s_law_sum) := ⟨rfl, rfl, rfl, by decide +kernel, rfl, by decide +kernel, by decide +kernel⟩
theorem ok_lsum {f : Addr} {fd : FuncData} (F : FnP K "_law_sum" s_law_sum f fd) (T : LwTx K mg) (M : MkS P w K mg base) : FnOk P w K mg base CX0 3 f fd ["_law_row"] (spSum K) := by
  refine F.ok sc_law_sum (fun vs H Q E h => ?_) (fun cdv A outer s H vs Q E hr h => ?_)
  · obtain ⟨q, a, b, c, rest, rfl, _⟩ := h
    rfl
  · obtain ⟨q, a, b, c, rest, rfl, hq, k⟩ := h
    refine ⟨_, PSs.nox (pss_one (ps_ret (pe_SK (K := K) rfl T.toStTx M hr (pa_cons (pe_ix (ix_tupK (K := K) rfl) (pv 0) pe_int (fun _ _ => rfl)) (pa_cons (pe_ix (ix_tupK (K := K) rfl) (pv 0) pe_int (fun _ _ => rfl)) (pa_cons (pe_ix (ix_tupK (K := K) rfl) (pv 0) pe_int (fun _ _ => rfl)) pa_nil)))))), ?_⟩
    refine ⟨_, rfl, q, _, _, _, rfl, rfl, SqT.of hq, at0, _, rfl, q, _, _, _, rfl, rfl, SqT.of hq, at1, _, rfl, q, _, _, _, rfl, rfl, SqT.of hq, at2, a, b, c, rfl, fun r H' s _ hr => k r H' s hr⟩
theorem sc_law_made_guard : FnScope ["_law_guard"] ["_law_guard"] (defScope s_law_made_guard) := ⟨rfl, rfl, rfl, by decide +kernel, rfl, by decide +kernel, by decide +kernel⟩
theorem ok_mguard {f : Addr} {fd : FuncData} (F : FnP K "_law_made_guard" s_law_made_guard f fd) (T : LwTx K mg) (MA : MkA P w K mg base) (MR : MkR P w K mg base) (dSum : Dn P w K mg base 3 "_law_sum" ["_law_row"] (spSum K)) : FnOk P w K mg base CX0 6 f fd ["_law_guard"] (spMGuard K) := by
  refine F.ok sc_law_made_guard (fun vs H Q E h => ?_) (fun cdv A outer s H vs Q E hr h => ?_)
  · obtain ⟨v, g, rfl, _⟩ := h
    rfl
  · obtain ⟨v, g, rfl, hd, hok, k⟩ := h
    refine ⟨_, PSs.nox (pss_cons (ps_if (pt_cmpR op_eq (pe_ix (ix_tupK (K := K) rfl) (pv 0) pe_int (fun _ _ => rfl)) pe_str (nomark _)) (pss_one (ps_ret (pe_RK (K := K) rfl T.toAtTx MR hr at_E0 (pa_cons (pe_dn dSum hr (pa_cons (pe_ix (ix_tupK (K := K) rfl) (pv 0) pe_int (fun _ _ => rfl)) pa_nil)) (pa_cons (pe_ix (ix_tupK (K := K) rfl) (pv 0) pe_int (fun _ _ => rfl)) (pa_cons (pe_ix (ix_tupK (K := K) rfl) (pv 0) pe_int (fun _ _ => rfl)) pa_nil)))))) pss_nil)
      (pss_one (ps_ret (pe_AK (K := K) rfl T.toAtTx MA hr (pa_cons (pe_dn dSum hr (pa_cons (pe_ix (ix_tupK (K := K) rfl) (pv 0) pe_int (fun _ _ => rfl)) pa_nil)) pa_nil))))), ?_⟩
    cases g with
    | lea a b c =>
      obtain ⟨q, xs, rfl, hq, ds⟩ := hd.tup'
      cases ds with
      | cons r1 r =>
        cases r with
        | cons r2 r =>
          cases r
          cases r1
          obtain ⟨t3, rfl, h3⟩ := dt3' r2
          refine ⟨_, rfl, q, _, _, _, rfl, rfl, SqT.of hq, at0, rfl, _, rfl, if_no (by decide +kernel) ?_⟩
          refine ⟨_, rfl, q, _, _, _, rfl, rfl, SqT.of hq, at1, t3, a, b, c, [], rfl, h3, fun r1 H1 s1 hr1 => ?_⟩
          refine ⟨.ref r1, a, b, c, rfl, .inl ⟨r1, rfl, hr1⟩, ?_, fun p2 H2 s2 h2 => k _ _ (s1.trans s2) ⟨p2, rfl, h2⟩⟩
          unfold GdOk sm3 at hok
          exact Nat.lt_of_le_of_lt (g2_le (N := 10) (by omega) (by omega)) (by decide)
    | rst a b c m r =>
      obtain ⟨q, xs, rfl, hq, ds⟩ := hd.tup'
      obtain ⟨hok, m2, m4, r0, r1⟩ := hok
      cases ds with
      | cons d1 ds =>
        cases ds with
        | cons d2 ds =>
          cases ds with
          | cons d3 ds =>
            cases ds with
            | cons d4 ds =>
              cases ds
              cases d1
              cases d3
              cases d4
              obtain ⟨t3, rfl, h3⟩ := dt3' d2
              refine ⟨_, rfl, q, _, _, _, rfl, rfl, SqT.of hq, at0, rfl, _, rfl, if_yes (by decide +kernel) ?_⟩
              refine ⟨_, rfl, q, _, _, _, rfl, rfl, SqT.of hq, at1, t3, a, b, c, [], rfl, h3, fun r1 H1 s1 hr1 => ?_⟩
              have hq1 := s1 _ _ hq
              refine ⟨_, rfl, q, _, _, _, rfl, rfl, SqT.of hq1, at2, _, rfl, q, _, _, _, rfl, rfl, SqT.of hq1, at3, .ref r1, m, r, rfl, a, b, c, .inl ⟨r1, rfl, hr1⟩, fun z => absurd ⟨m2, m4⟩ z, fun _ _ z => absurd ⟨r0, by omega⟩ z, fun _ _ _ _ p2 H2 s2 h2 => k _ _ (s1.trans s2) ⟨p2, rfl, h2⟩⟩
end
end K26
set_option maxHeartbeats 4000000
namespace K26
open PySem PySem.Spec PyProof.Rows L2 Z
theorem pe_PK {X : Cx} {K : PySem.W.Frag} {e : Expr} {es : List Expr} {t : TA} {p pos : Pos} {k : Nat} {E : L2.St → XK} (hK : X.K = K) (T : PlTx K X.mg) (M : MkP X.prog X.w K X.mg X.base) (hr : Room k X.A) (hx : ∀ σ, PassesAt (L2.CX X.prog X.w) X σ (E σ)) (ha : PA X (e :: es) t) (hk : 5 ≤ k := by decide) (hg : Gl X "Place" := by rfl)
    (he : starEach (e :: es) X.env = (false, eval e X.env) :: starEach es X.env := by rfl) (hpl : (backTo pos (starEach es X.env)).any (·.1) = false := by rfl) :
    PE X (.Call (.Name "Place" p) (e :: es) [] pos) (fun σ H Q => t σ H fun vs H1 => ∃ v d, vs = [v, .int d] ∧ rPlG K v d H1 Q (E σ)) := by
  subst hK
  exact pe_P T M hr hx ha hk hg he hpl
theorem ck_name {x : Str} (h : NmOk x) : ckA x = none := if_pos h.1
theorem ckn_ok {w : Str} {v lo hi : Int} (h1 : lo ≤ v) (h2 : v ≤ hi) : ckN w v lo hi = none := if_pos ⟨h1, h2⟩
theorem cks_ok {a b c : Int} (h1 : -12 ≤ a) (h2 : a ≤ 12) (h3 : -12 ≤ b) (h4 : b ≤ 12) (h5 : -999 ≤ c) (h6 : c ≤ 999) : ckS a b c = none := by
  unfold ckS
  rw [ckn_ok h1 h2, ckn_ok h3 h4, ckn_ok h5 h6]
  rfl
def spMStm (K : PySem.W.Frag) : Sp := fun vs H Q _ => ∃ (v : V) (s : StM), vs = [v] ∧ DT H v (stD s) ∧ StOk s ∧ ∀ v' H', Same H H' → StOb K H' v' s → Q v' H'
theorem dt_rd {H : Hp} {v : V} {r : RdM} (h : DT H v (rdD r)) : ∃ t q, v = .ref t ∧ H t = some (.tup [.str r.x, .ref q, .int r.f]) ∧ H q = some (.tup [.int r.a, .int r.b, .int r.c, .int r.d]) := by
  obtain ⟨t, xs, rfl, ht, ds⟩ := h.tup'
  cases ds with
  | cons d1 ds =>
    cases ds with
    | cons d2 ds =>
      cases ds with
      | cons d3 ds =>
        cases ds
        cases d1
        cases d3
        obtain ⟨q, rfl, hq⟩ := dt4' d2
        exact ⟨t, q, rfl, ht, hq⟩
theorem dt_st {H : Hp} {v : V} {s : StM} (h : DT H v (stD s)) : ∃ t q tr tg xs ys, v = .ref t ∧ H t = some (.tup [.str s.x, .ref q, .int s.k, .ref tr, .ref tg]) ∧ H q = some (.tup [.int s.a, .int s.b, .int s.c]) ∧
    H tr = some (.tup xs) ∧ DTs H xs (s.rds.map rdD) ∧ H tg = some (.tup ys) ∧ DTs H ys (s.gds.map gdD) := by
  obtain ⟨t, xs, rfl, ht, ds⟩ := h.tup'
  cases ds with
  | cons d1 ds =>
    cases ds with
    | cons d2 ds =>
      cases ds with
      | cons d3 ds =>
        cases ds with
        | cons d4 ds =>
          cases ds with
          | cons d5 ds =>
            cases ds
            cases d1
            cases d3
            obtain ⟨q, rfl, hq⟩ := dt3' d2
            obtain ⟨tr, xr, rfl, hr, dr⟩ := d4.tup'
            obtain ⟨tg, xg, rfl, hg, dg⟩ := d5.tup'
            exact ⟨t, q, tr, tg, xr, xg, rfl, ht, hq, hr, dr, hg, dg⟩
theorem dt_lp {H : Hp} {v : V} {l : LpM} (h : DT H v (lpD l)) : ∃ t q1 q2 ts xs, v = .ref t ∧ H t = some (.tup [.ref q1, .ref q2, .int l.S, .bl l.dn, .ref ts]) ∧ H q1 = some (.tup [.int l.l0, .int l.l1, .int l.l2]) ∧ H q2 = some (.tup [.int l.h0, .int l.h1, .int l.h2]) ∧
    H ts = some (.tup xs) ∧ DTs H xs (l.sts.map stD) := by
  obtain ⟨t, xs, rfl, ht, ds⟩ := h.tup'
  cases ds with
  | cons d1 ds =>
    cases ds with
    | cons d2 ds =>
      cases ds with
      | cons d3 ds =>
        cases ds with
        | cons d4 ds =>
          cases ds with
          | cons d5 ds =>
            cases ds
            cases d3
            cases d4
            obtain ⟨q1, rfl, h1⟩ := dt3' d1
            obtain ⟨q2, rfl, h2⟩ := dt3' d2
            obtain ⟨ts, xt, rfl, h5, d5⟩ := d5.tup'
            exact ⟨t, q1, q2, ts, xt, rfl, ht, h1, h2, h5, d5⟩
theorem fmod_small {x m : Int} (h2 : 2 ≤ m) (h4 : m ≤ 4) : 0 ≤ x.fmod m ∧ x.fmod m ≤ 3 := by
  have := fmod_range (x := x) (show 0 < m by omega)
  omega
/-- the sums of conditions, all within their bounds -/
theorem cnds_of {K : PySem.W.Frag} {mg : Str → Option Value} (T : LwTx K mg) {H : Hp} {ws : List V} {gs : List Gd} (ok : ∀ g ∈ gs, GdOk g) (f : Fa (GdOb K H) ws gs) : ∃ cc, Cnds K H ws cc ∧ ckCs cc = none := by
  refine ⟨gs.map fun g => match g with | .lea a b c => (a.fdiv (g2 a b), b.fdiv (g2 a b), lf3 a b c) | .rst a b _ m _ => (a.fmod m, b.fmod m, 0), ⟨by rw [f.1, List.length_map], fun i v t h1 h2 => ?_⟩, ?_⟩
  · rw [List.getElem?_map] at h2
    obtain ⟨g, hg, rfl⟩ := Option.map_eq_some_iff.mp h2
    have h := f.2 i v g h1 hg
    cases g with
    | lea a b c =>
      obtain ⟨p, e, dx, q, h3, h4⟩ := h
      exact ⟨p, _, dx, _, q, e, h3, T.clA, T.nAS, af_s _, h4⟩
    | rst a b c m r =>
      obtain ⟨p, e, dx, q, h3, h4⟩ := h
      exact ⟨p, _, dx, _, q, e, h3, T.clQ, T.nRS, rf_s _ _ _, h4⟩
  · clear f
    induction gs with
    | nil => rfl
    | cons g gs ih =>
      have ih := ih fun g' h => ok g' (List.mem_cons_of_mem _ h)
      have ok := ok g (List.mem_cons_self ..)
      rw [List.map_cons]
      show (ckS _ _ _).or (ckCs _) = none
      rw [ih]
      cases g with
      | lea a b c =>
        obtain ⟨h1, h2, h3, h4, h5, h6⟩ := ok
        have q : ckS (a.fdiv (g2 a b)) (b.fdiv (g2 a b)) (lf3 a b c) = none := by
          unfold lf3
          by_cases z : g2 a b = 0
          · obtain ⟨rfl, rfl⟩ := g2_zero z
            rw [if_pos z, Int.zero_fdiv]
            split
            · exact cks_ok (by decide) (by decide) (by decide) (by decide) (by decide) (by decide)
            · exact cks_ok (by decide) (by decide) (by decide) (by decide) (by decide) (by decide)
          · rw [if_neg z]
            have g0 : (0 : Int) < (g2 a b : Int) := by omega
            have ga := fdiv_bd (x := a) (M := 12) g0 (by decide) (by omega) (by omega)
            have gb := fdiv_bd (x := b) (M := 12) g0 (by decide) (by omega) (by omega)
            have gc := fdiv_bd (x := c) (M := 999) g0 (by decide) (by omega) (by omega)
            exact cks_ok ga.1 ga.2 gb.1 gb.2 gc.1 gc.2
        dsimp only
        rw [q]
        rfl
      | rst a b c m r =>
        obtain ⟨h1, h2, h3, _, _⟩ := ok
        have fa := fmod_small (x := a) h2 h3
        have fb := fmod_small (x := b) h2 h3
        dsimp only
        rw [cks_ok (by omega) (by omega) (by omega) (by omega) (by decide) (by decide)]
        rfl
section
variable {P : Program} {w : World} {K : PySem.W.Frag} {mg : Str → Option Value} {base : Heap}
theorem sc_law_made_statement : FnScope ["_law_row", "_law_read", "_law_one", "_law_guards", "_law_guard"] ["_law_row"] (defScope s_law_made_statement) := ⟨rfl, rfl, rfl, by decide +kernel, rfl, by decide +kernel, by decide +kernel⟩
theorem ok_mstm {f : Addr} {fd : FuncData} (F : FnP K "_law_made_statement" s_law_made_statement f fd) (T : LwTx K mg) (MP : MkP P w K mg base) (MRd : MkRd P w K mg base) (MSt : MkSt P w K mg base) (dSum : Dn P w K mg base 3 "_law_sum" ["_law_row"] (spSum K))
    (dMGuard : Dn P w K mg base 6 "_law_made_guard" ["_law_guard"] (spMGuard K)) : FnOk P w K mg base CX0 9 f fd ["_law_row"] (spMStm K) := by
  refine F.ok sc_law_made_statement (fun vs H Q E h => ?_) (fun cdv A outer s H vs Q E hr h => ?_)
  · obtain ⟨v, m, rfl, _⟩ := h
    rfl
  · obtain ⟨v, m, rfl, hd, hok, k⟩ := h
    refine ⟨_, PSs.nox (pss_cons (ps_setLc (i := 1) (own := [("_law_one", 2)]) (g := gName 2) (tt := tYes) rfl sc_law_made_statement.nd rfl rfl (sw_true rfl rfl rfl (by decide +kernel)) (pi_tup (pe_ix (ix_tupK (K := K) rfl) (pv 0) pe_int (fun _ _ => rfl))) (blkOk_by (N := ["_law_row", "_law_read", "_law_one", "_law_guards", "_law_guard"]) (sc := defScope s_law_made_statement) (by decide +kernel)) (fun _ _ _ _ _ => (pg_name (i := 2) sc_law_made_statement.nd rfl (.inl rfl))) (fun _ _ _ _ _ => pts_nil) (fun _ _ _ _ _ => (pe_RdK (K := K) MRd rfl hr at_E0 (pa_cons (pe_ix (ix_tupK (K := K) rfl) (pv 2) pe_int (fun _ _ => rfl)) (pa_cons (pe_PK (K := K) rfl T.plc MP hr at_E0 (pa_cons (pe_dn dSum hr (pa_cons (pe_ix (ix_tupK (K := K) rfl) (pv 2) pe_int (fun _ _ => rfl)) pa_nil)) (pa_cons (pe_ix (ix_tupK (K := K) rfl) (pe_ix (ix_tupK (K := K) rfl) (pv 2) pe_int (fun _ _ => rfl)) pe_int (fun _ _ => rfl)) pa_nil))) pa_nil)) (pk_cons (pe_ix (ix_tupK (K := K) rfl) (pv 2) pe_int (fun _ _ => rfl)) pk_nil))))
      (pss_cons (ps_setLc (i := 3) (own := [("_law_guard", 4)]) (g := gName 4) (tt := tYes) rfl sc_law_made_statement.nd rfl rfl (sw_true rfl rfl rfl (by decide +kernel)) (pi_tup (pe_ix (ix_tupK (K := K) rfl) (pv 0) pe_int (fun _ _ => rfl))) (blkOk_by (N := ["_law_row", "_law_read", "_law_one", "_law_guards", "_law_guard"]) (sc := defScope s_law_made_statement) (by decide +kernel)) (fun _ _ _ _ _ => (pg_name (i := 4) sc_law_made_statement.nd rfl (.inl rfl))) (fun _ _ _ _ _ => pts_nil) (fun _ _ _ _ _ => (pe_dn dMGuard hr (pa_cons (pv 4) pa_nil))))
      (pss_one (ps_ret (pe_StK2 (K := K) MSt rfl hr at_E0 (pa_cons (pe_ix (ix_tupK (K := K) rfl) (pv 0) pe_int (fun _ _ => rfl)) (pa_cons (pe_dn dSum hr (pa_cons (pe_ix (ix_tupK (K := K) rfl) (pv 0) pe_int (fun _ _ => rfl)) pa_nil)) (pa_cons (pe_ix (ix_tupK (K := K) rfl) (pv 0) pe_int (fun _ _ => rfl)) pa_nil))) (pk_cons (pv 1) (pk_cons (pv 3) pk_nil))))))), ?_⟩
    obtain ⟨t, q, tr, tg, xr, xg, rfl, ht, hq, hr', dr, hg, dg⟩ := dt_st hd
    obtain ⟨nmx, ⟨sa0, sa1, sb0, sb1, sc0, sc1⟩, k0, k1, lr, lg, okr, okg⟩ := hok
    refine ⟨_, rfl, t, _, _, _, rfl, rfl, SqT.of ht, at3, tr, rfl, ⟨_, SqT.of hr'⟩, fun D hD => ?_⟩
    -- the reads
    refine lc_tup (K := K) (xs := xr) (fun i Hc => ∃ vs, Hc D = some (.lst vs) ∧ Fa (RdOb K Hc) vs (m.rds.take i) ∧ Same H Hc) ⟨[], upd_same, .nil, Same.new _ (Same.refl H) hD⟩ (fun i Hc _ z => SqT.of (z.choose_spec.2.2 _ _ hr')) ?_ ?_
    · rintro i v Hc hv ⟨vs, eD, fa, sc⟩
      obtain ⟨r, er, dv⟩ := (dr.to (.of sc)).map' hv
      obtain ⟨t4, q4, rfl, h4, hq4⟩ := dt_rd dv
      obtain ⟨rnm, ⟨ra0, ra1, rb0, rb1, rc0, rc1⟩, rd0, rd1, rf0, rf1, rf2⟩ := okr r (List.mem_of_getElem? er)
      refine ⟨rfl, yes_of ?_⟩
      refine ⟨_, rfl, t4, _, _, _, rfl, rfl, SqT.of h4, at0, _, rfl, t4, _, _, _, rfl, rfl, SqT.of h4, at1, q4, r.a, r.b, r.c, _, rfl, hq4, fun r1 H1 s1 hr1 => ?_⟩
      have h4' := s1 _ _ h4
      refine ⟨_, rfl, t4, _, _, _, rfl, rfl, SqT.of h4', at1, _, _, _, _, rfl, rfl, SqT.of (s1 _ _ hq4), at3, .ref r1, r.d, rfl, r.a, r.b, r.c, .inl ⟨r1, rfl, hr1⟩, (fun z => absurd z (by omega)), fun d1 => ⟨?_, fun pp H2 s2 hpp => ?_⟩⟩
      · have := gg_le (a := r.a) (b := r.b) (d := r.d) (by omega)
        omega
      have g0 := gg_pos (a := r.a) (b := r.b) (d := r.d) (by omega)
      have ga := fdiv_bd (x := r.a) (M := 12) (g := (gg r.a r.b r.d : Int)) (by omega) (by decide) (by omega) (by omega)
      have gb := fdiv_bd (x := r.b) (M := 12) (g := (gg r.a r.b r.d : Int)) (by omega) (by decide) (by omega) (by omega)
      have gc := fdiv_bd (x := r.c) (M := 999) (g := (gg r.a r.b r.d : Int)) (by omega) (by decide) (by omega) (by omega)
      have gd := dv_bd (a := r.a) (b := r.b) (d := r.d) (by omega)
      refine ⟨_, rfl, t4, _, _, _, rfl, rfl, SqT.of (s2 _ _ h4'), at2, rfl, rfl, r.x, .ref pp, r.f, _, _, _, _, rfl, Nat.le_trans rnm.2.1 (by decide), .inl ⟨pp, rfl, hpp⟩, Out.ok ?_ fun p3 H3 s3 h3 => ?_⟩
      · unfold ckRead ckP
        rw [ck_name rnm, if_neg rf0, ckn_ok rf1 rf2, cks_ok ga.1 ga.2 gb.1 gb.2 gc.1 gc.2, ckn_ok gd.1 (by omega)]
        rfl
      have s13 := s1.trans (s2.trans s3)
      have eD3 := s13 _ _ eD
      refine ⟨vs, eD3, sz1l _ ?_, vs ++ [.ref p3], upd_same, ?_, fun b o e => ?_⟩
      · rw [fa.1, List.length_take]
        omega
      · rw [List.take_add_one, er]
        have msU : MS H3 (upd H3 D (.lst (vs ++ [.ref p3]))) := .updL eD3
        exact (fa.imp fun _ _ z => (z.same s13).ms msU).snoc (RdOb.ms ⟨p3, _, _, _, _, rfl, h3, ga.1, ga.2, gb.1, gb.2, gd.1, by omega, fun i n => val_least (by omega)⟩ msU)
      · rw [upd_ne (ne_of_none e hD)]
        exact s13 _ _ (sc b o e)
    rintro H1 ⟨vs, eD, fa, s1⟩
    have lxr : xr.length = m.rds.length := by rw [dr.len, List.length_map]
    rw [lxr, List.take_length] at fa
    refine normG (σ' := [some (.ref t), some (.ref D), none, none, none]) rfl ?_
    -- the conditions
    refine ⟨_, rfl, t, _, _, _, rfl, rfl, SqT.of (s1 _ _ ht), at4, tg, rfl, ⟨_, SqT.of (s1 _ _ hg)⟩, fun D2 hD2 => ?_⟩
    refine lc_tup (K := K) (xs := xg) (fun i Hc => ∃ ws, Hc D2 = some (.lst ws) ∧ Fa (GdOb K Hc) ws (m.gds.take i) ∧ Same H1 Hc) ⟨[], upd_same, .nil, Same.new _ (Same.refl H1) hD2⟩ (fun i Hc _ z => SqT.of (z.choose_spec.2.2 _ _ (s1 _ _ hg))) ?_ ?_
    · rintro i v Hc hv ⟨ws, eD2, fg, sc⟩
      obtain ⟨g, eg, dv⟩ := (dg.to (.of (s1.trans sc))).map' hv
      refine ⟨rfl, yes_of ?_⟩
      refine ⟨_, rfl, v, g, rfl, dv, okg g (List.mem_of_getElem? eg), fun v' H' s' hv' => ?_⟩
      have eD3 := s' _ _ eD2
      refine ⟨ws, eD3, sz1l _ ?_, ws ++ [v'], upd_same, ?_, fun b o e => ?_⟩
      · rw [fg.1, List.length_take]
        omega
      · rw [List.take_add_one, eg]
        have msU : MS H' (upd H' D2 (.lst (ws ++ [v']))) := .updL eD3
        exact (fg.imp fun _ _ z => (z.same s').ms msU).snoc (hv'.ms msU)
      · rw [upd_ne (ne_of_none e hD2)]
        exact s' _ _ (sc b o e)
    rintro H2 ⟨ws, eD2, fg, s2⟩
    have lxg : xg.length = m.gds.length := by rw [dg.len, List.length_map]
    rw [lxg, List.take_length] at fg
    refine normG (σ' := [some (.ref t), some (.ref D), none, some (.ref D2), none]) rfl ?_
    have s12 := s1.trans s2
    refine ⟨_, rfl, t, _, _, _, rfl, rfl, SqT.of (s12 _ _ ht), at0, _, rfl, t, _, _, _, rfl, rfl, SqT.of (s12 _ _ ht), at1, q, m.a, m.b, m.c, [], rfl, s12 _ _ hq, fun r1 H3 s3 hr1 => ?_⟩
    refine ⟨_, rfl, t, _, _, _, rfl, rfl, SqT.of (s3 _ _ (s12 _ _ ht)), at2, _, rfl, _, rfl, rfl, rfl, ?_⟩
    obtain ⟨cc, hcc, hck⟩ := cnds_of T okg fg
    refine ⟨m.x, .ref r1, m.k, D, D2, vs, ws, cc, m.a, m.b, m.c, rfl, Nat.le_trans nmx.2.1 (by decide), .inl ⟨r1, rfl, hr1⟩, .inl (SqL.of (s3 _ _ (s2 _ _ eD))), .inl (SqL.of (s3 _ _ eD2)), hcc.same s3, Out.ok ?_ fun p4 H4 s4 h4 => ?_⟩
    · unfold ckStm ckM
      rw [fa.1, fg.1, if_pos (by omega), if_pos (by omega), ck_name nmx, hck, cks_ok (by omega) (by omega) (by omega) (by omega) (by omega) (by omega), ckn_ok (by omega) (by omega)]
      rfl
    · exact k _ _ (s12.trans (s3.trans s4)) ⟨p4, vs, ws, rfl, h4, fa.imp fun _ _ z => z.same (s2.trans (s3.trans s4)), fg.imp fun _ _ z => z.same (s3.trans s4)⟩
end
end K26
set_option maxHeartbeats 4000000
namespace K26
open PySem PySem.Spec PyProof.Rows L2 Z
def spMLoop (K : PySem.W.Frag) : Sp := fun vs H Q _ => ∃ (v : V) (l : LpM), vs = [v] ∧ DT H v (lpD l) ∧ LpOk l ∧ ∀ v' H', Same H H' → LpOb K H' v' l → Q v' H'
def spMade (K : PySem.W.Frag) : Sp := fun vs H Q _ => ∃ (r : Addr) (xs : List V) (ls : List LpM), vs = [.ref r] ∧ H r = some (.lst xs) ∧ DTs H xs (ls.map lpD) ∧ ls.length ≤ 3 ∧ (∀ l ∈ ls, LpOk l) ∧ ∀ v' H', Same H H' → PrOb K H' v' ls → Q v' H'
def lf4 (a c d : Int) : P4 := ((0 : Int).fdiv (gg 0 a d), a.fdiv (gg 0 a d), c.fdiv (gg 0 a d), d.fdiv (gg 0 a d))
/-- a place of the size alone, in least form -/
theorem rg_least {a c d : Int} (a0 : 0 ≤ a) (a3 : a ≤ 3) (c0 : -999 ≤ c) (c1 : c ≤ 999) (d1 : 1 ≤ d) (d3 : d ≤ 3) : RgF (lf4 a c d) a c d := by
  have g0 := gg_pos (a := 0) (b := a) (d := d) (by omega)
  have ga := fdiv_bd (x := a) (M := 3) (g := (gg 0 a d : Int)) (by omega) (by decide) (by omega) (by omega)
  have gan := fdiv_nn (x := a) (m := (gg 0 a d : Int)) a0 (by omega)
  have gc := fdiv_bd (x := c) (M := 999) (g := (gg 0 a d : Int)) (by omega) (by decide) (by omega) (by omega)
  have gd := dv_bd (a := 0) (b := a) (d := d) (by omega)
  refine ⟨Int.zero_fdiv ((gg 0 a d : Nat) : Int), gan, ga.2, gc.1, gc.2, gd.1, Int.le_trans gd.2 d3, fun n => ?_⟩
  have e := val_least (a := 0) (b := a) (c := c) (d := d) (i := 0) (n := n) (by omega)
  simp only [Int.mul_zero, Int.zero_add] at e
  exact e
theorem rg_ck {t : P4} {a c d : Int} (h : RgF t a c d) : ckR t.1 t.2.1 t.2.2.1 t.2.2.2 = none := by
  obtain ⟨h1, h2, h3, h4, h5, h6, h7, _⟩ := h
  unfold ckR
  rw [ckn_ok (by omega) (by omega), ckn_ok h2 h3, ckn_ok h4 h5, ckn_ok h6 h7]
  rfl
section
variable {P : Program} {w : World} {K : PySem.W.Frag} {mg : Str → Option Value} {base : Heap}
theorem sc_law_made_loop : FnScope ["_law_row", "_law_low", "_law_high", "_law_one"] ["_law_row"] (defScope s_law_made_loop) := ⟨rfl, rfl, rfl, by decide +kernel, rfl, by decide +kernel, by decide +kernel⟩
theorem ok_mloop {f : Addr} {fd : FuncData} (F : FnP K "_law_made_loop" s_law_made_loop f fd) (T : LwTx K mg) (M : MkS P w K mg base) (MP : MkP P w K mg base) (MLp : MkLp P w K mg base) (dMStm : Dn P w K mg base 9 "_law_made_statement" ["_law_row"] (spMStm K)) : FnOk P w K mg base CX0 10 f fd ["_law_row"] (spMLoop K) := by
  refine F.ok sc_law_made_loop (fun vs H Q E h => ?_) (fun cdv A outer s H vs Q E hr h => ?_)
  · obtain ⟨v, m, rfl, _⟩ := h
    rfl
  · obtain ⟨v, m, rfl, hd, hok, k⟩ := h
    refine ⟨_, PSs.nox (pss_cons (ps_set (i := 1) sc_law_made_loop.nd rfl (Or.inl rfl) (pe_PK (K := K) rfl T.plc MP hr at_E0 (pa_cons (pe_SK (K := K) rfl T.toStTx M hr (pa_cons pe_int (pa_cons (pe_ix (ix_tupK (K := K) rfl) (pe_ix (ix_tupK (K := K) rfl) (pv 0) pe_int (fun _ _ => rfl)) pe_int (fun _ _ => rfl)) (pa_cons (pe_ix (ix_tupK (K := K) rfl) (pe_ix (ix_tupK (K := K) rfl) (pv 0) pe_int (fun _ _ => rfl)) pe_int (fun _ _ => rfl)) pa_nil)))) (pa_cons (pe_ix (ix_tupK (K := K) rfl) (pe_ix (ix_tupK (K := K) rfl) (pv 0) pe_int (fun _ _ => rfl)) pe_int (fun _ _ => rfl)) pa_nil))))
      (pss_cons (ps_set (i := 2) sc_law_made_loop.nd rfl (Or.inl rfl) (pe_PK (K := K) rfl T.plc MP hr at_E0 (pa_cons (pe_SK (K := K) rfl T.toStTx M hr (pa_cons pe_int (pa_cons (pe_ix (ix_tupK (K := K) rfl) (pe_ix (ix_tupK (K := K) rfl) (pv 0) pe_int (fun _ _ => rfl)) pe_int (fun _ _ => rfl)) (pa_cons (pe_ix (ix_tupK (K := K) rfl) (pe_ix (ix_tupK (K := K) rfl) (pv 0) pe_int (fun _ _ => rfl)) pe_int (fun _ _ => rfl)) pa_nil)))) (pa_cons (pe_ix (ix_tupK (K := K) rfl) (pe_ix (ix_tupK (K := K) rfl) (pv 0) pe_int (fun _ _ => rfl)) pe_int (fun _ _ => rfl)) pa_nil))))
      (pss_one (ps_ret (pe_LpK (K := K) MLp rfl hr at_E0 (pa_cons (pv 1) (pa_cons (pv 2) (pa_cons (pe_lc (own := [("_law_one", 3)]) (g := gName 3) (tt := tYes) rfl sc_law_made_loop.nd (pi_tup (pe_ix (ix_tupK (K := K) rfl) (pv 0) pe_int (fun _ _ => rfl))) (blkOk_by (N := ["_law_row", "_law_low", "_law_high", "_law_one"]) (sc := defScope s_law_made_loop) (by decide +kernel)) (fun _ _ _ _ _ => (pg_name (i := 3) sc_law_made_loop.nd rfl (.inl rfl))) (fun _ _ _ _ _ => pts_nil) (fun _ _ _ _ _ => (pe_dn dMStm hr (pa_cons (pv 3) pa_nil)))) pa_nil))) (pk_cons (pe_ix (ix_tupK (K := K) rfl) (pv 0) pe_int (fun _ _ => rfl)) (pk_cons (pe_ix (ix_tupK (K := K) rfl) (pv 0) pe_int (fun _ _ => rfl)) pk_nil))))))), ?_⟩
    obtain ⟨t, q1, q2, ts, xs, rfl, ht, h1, h2, hts, ds⟩ := dt_lp hd
    obtain ⟨a0, a1, b0, b1, c0, c1, x0, x1, y0, y1, z0, z1, S0, S1, hS, n0, n3, okS⟩ := hok
    refine ⟨_, rfl, t, _, _, _, rfl, rfl, SqT.of ht, at0, q1, _, _, _, rfl, rfl, SqT.of h1, at0, _, rfl, t, _, _, _, rfl, rfl, SqT.of ht, at0, q1, _, _, _, rfl, rfl, SqT.of h1, at1, 0, m.l0, m.l1, rfl, fun r1 H1 s1 _ hr1 => ?_⟩
    refine ⟨_, rfl, t, _, _, _, rfl, rfl, SqT.of (s1 _ _ ht), at0, q1, _, _, _, rfl, rfl, SqT.of (s1 _ _ h1), at2, .ref r1, m.l2, rfl, 0, m.l0, m.l1, .inl ⟨r1, rfl, hr1⟩, (fun z => absurd z (by omega)), fun _ => ⟨?_, fun p1 H2 s2 hp1 => ?_⟩⟩
    · have := gg_le (a := 0) (b := m.l0) (d := m.l2) (by omega)
      omega
    refine normG (σ' := [some (.ref t), some (.ref p1), none, none]) rfl ?_
    have s02 := s1.trans s2
    have ht2 := s02 _ _ ht
    have h22 := s02 _ _ h2
    refine ⟨_, rfl, t, _, _, _, rfl, rfl, SqT.of ht2, at1, q2, _, _, _, rfl, rfl, SqT.of h22, at0, _, rfl, t, _, _, _, rfl, rfl, SqT.of ht2, at1, q2, _, _, _, rfl, rfl, SqT.of h22, at1, 0, m.h0, m.h1, rfl, fun r2 H3 s3 _ hr2 => ?_⟩
    refine ⟨_, rfl, t, _, _, _, rfl, rfl, SqT.of (s3 _ _ ht2), at1, q2, _, _, _, rfl, rfl, SqT.of (s3 _ _ h22), at2, .ref r2, m.h2, rfl, 0, m.h0, m.h1, .inl ⟨r2, rfl, hr2⟩, (fun z => absurd z (by omega)), fun _ => ⟨?_, fun p2 H4 s4 hp2 => ?_⟩⟩
    · have := gg_le (a := 0) (b := m.h0) (d := m.h2) (by omega)
      omega
    refine normG (σ' := [some (.ref t), some (.ref p1), some (.ref p2), none]) rfl ?_
    have s04 := s02.trans (s3.trans s4)
    have ht4 := s04 _ _ ht
    have hts4 := s04 _ _ hts
    refine ⟨_, rfl, _, rfl, _, rfl, t, _, _, _, rfl, rfl, SqT.of ht4, at4, ts, rfl, ⟨_, SqT.of hts4⟩, fun D hD => ?_⟩
    refine lc_tup (K := K) (xs := xs) (fun i Hc => ∃ ws, Hc D = some (.lst ws) ∧ Fa (StOb K Hc) ws (m.sts.take i) ∧ Same H4 Hc) ⟨[], upd_same, .nil, Same.new _ (Same.refl H4) hD⟩ (fun i Hc _ z => SqT.of (z.choose_spec.2.2 _ _ hts4)) ?_ ?_
    · rintro i v Hc hv ⟨ws, eD, fg, sc⟩
      obtain ⟨g, eg, dv⟩ := (ds.to (.of (s04.trans sc))).map' hv
      refine ⟨rfl, yes_of ?_⟩
      refine ⟨_, rfl, v, g, rfl, dv, okS g (List.mem_of_getElem? eg), fun v' H' s' hv' => ?_⟩
      have eD3 := s' _ _ eD
      refine ⟨ws, eD3, sz1l _ ?_, ws ++ [v'], upd_same, ?_, fun b o e => ?_⟩
      · rw [fg.1, List.length_take]
        omega
      · rw [List.take_add_one, eg]
        have msU : MS H' (upd H' D (.lst (ws ++ [v']))) := .updL eD3
        exact (fg.imp fun _ _ z => (z.same s').ms msU).snoc (hv'.ms msU)
      · rw [upd_ne (ne_of_none e hD)]
        exact s' _ _ (sc b o e)
    rintro H5 ⟨ws, eD, fg, s5⟩
    have lxs : xs.length = m.sts.length := by rw [ds.len, List.length_map]
    rw [lxs, List.take_length] at fg
    have ht5 := s5 _ _ ht4
    refine ⟨_, rfl, t, _, _, _, rfl, rfl, SqT.of ht5, at2, _, rfl, t, _, _, _, rfl, rfl, SqT.of ht5, at3, rfl, rfl, ?_⟩
    have f1 := rg_least (a := m.l0) (c := m.l1) (d := m.l2) a0 (by omega) (by omega) (by omega) c0 (by omega)
    have f2 := rg_least (a := m.h0) (c := m.h1) (d := m.h2) x0 (by omega) (by omega) (by omega) z0 z1
    have s25 := s3.trans (s4.trans s5)
    refine ⟨.ref p1, .ref p2, D, ws, lf4 m.l0 m.l1 m.l2, lf4 m.h0 m.h1 m.h2, m.S, m.dn, rfl, .inl ⟨p1, rfl, hp1.same s25⟩, .inl ⟨p2, rfl, hp2.same s5⟩, .inl (SqL.of eD), Out.ok ?_ fun p6 H6 s6 h6 => ?_⟩
    · unfold ckLp ckLoop ckM
      rw [fg.1, if_pos (by omega), ckn_ok (by omega) (by omega), rg_ck f1, rg_ck f2, if_neg ?_]
      · rfl
      rintro ⟨q1, q2⟩
      have e := hS q1
      have q3 : 1 < m.l2.fdiv (gg 0 m.l0 m.l2) := q2
      have := (dv_bd (a := 0) (b := m.l0) (d := m.l2) (by omega)).2
      omega
    · exact k _ _ (s04.trans (s5.trans s6)) ⟨p6, _, _, ws, rfl, h6, f1, f2, fg.imp fun _ _ z => z.same s6⟩
end
section
variable {K : PySem.W.Frag} {H : Hp}
theorem rdNs_of {rs : List V} {ms : List RdM} (h : Fa (RdOb K H) rs ms) : RdNs K H rs (ms.map (·.x)) := by
  refine ⟨by rw [List.length_map, h.1], fun i v y a b => ?_⟩
  rw [List.getElem?_map] at b
  obtain ⟨m, hm, rfl⟩ := Option.map_eq_some_iff.mp b
  obtain ⟨p, x1, x2, x3, x4, e, ⟨dx, q, h1, _⟩, _⟩ := h.2 i v m a hm
  exact ⟨p, dx, _, e, h1, rdf_a _ _ _⟩
theorem stNs_of {xs : List V} {ms : List StM} (h : Fa (StOb K H) xs ms) : StNs K H xs (ms.map fun m => m.x :: m.rds.map (·.x)) := by
  refine ⟨by rw [List.length_map, h.1], fun i v y a b => ?_⟩
  rw [List.getElem?_map] at b
  obtain ⟨m, hm, rfl⟩ := Option.map_eq_some_iff.mp b
  obtain ⟨p, rs, cs, e, ⟨dx, q, r, g, h1, _, h3, _⟩, h5, _⟩ := h.2 i v m a hm
  exact ⟨p, dx, _, m.x, r, rs, _, e, h1, stf_a _ _ _ _ _, stf_r _ _ _ _ _, h3, rdNs_of h5, rfl⟩
theorem lpNs_of {xs : List V} {ls : List LpM} (h : Fa (LpOb K H) xs ls) : LpNs K H xs (ls.map fun l => (l.sts.map fun m => m.x :: m.rds.map (·.x)).flatten) := by
  refine ⟨by rw [List.length_map, h.1], fun i v y a b => ?_⟩
  rw [List.getElem?_map] at b
  obtain ⟨m, hm, rfl⟩ := Option.map_eq_some_iff.mp b
  obtain ⟨p, t, u, ws, e, ⟨dx, lo, hi, st, h1, _, _, h4⟩, _, _, h7⟩ := h.2 i v m a hm
  exact ⟨p, dx, _, st, ws, _, e, h1, lp_tt _ _ _ _ _, h4, stNs_of h7, rfl⟩
end
theorem flat_bound {α β : Type} {f : α → List β} {n : Nat} : ∀ {l : List α}, (∀ a ∈ l, (f a).length ≤ n) → (l.map f).flatten.length ≤ l.length * n
  | [], _ => by simp
  | a :: l, h => by
    rw [List.map_cons, List.flatten_cons, List.length_append, List.length_cons]
    have h1 := h a (List.mem_cons_self ..)
    have h2 := flat_bound (l := l) fun b hb => h b (List.mem_cons_of_mem _ hb)
    rw [Nat.add_mul]
    omega
section
variable {P : Program} {w : World} {K : PySem.W.Frag} {mg : Str → Option Value} {base : Heap}
theorem sc_law_made : FnScope ["_law_rows", "_law_row"] ["_law_rows"] (defScope s_law_made) := ⟨rfl, rfl, rfl, by decide +kernel, rfl, by decide +kernel, by decide +kernel⟩
theorem ok_made {f : Addr} {fd : FuncData} (F : FnP K "_law_made" s_law_made f fd) (T : LwTx K mg) (MPr : MkPr P w K mg base) (dMLoop : Dn P w K mg base 10 "_law_made_loop" ["_law_row"] (spMLoop K)) : FnOk P w K mg base CX0 11 f fd ["_law_rows"] (spMade K) := by
  refine F.ok sc_law_made (fun vs H Q E h => ?_) (fun cdv A outer s H vs Q E hr h => ?_)
  · obtain ⟨r, xs, ls, rfl, _⟩ := h
    rfl
  · obtain ⟨r, xs, ls, rfl, hr0, ds, l3, ok, k⟩ := h
    refine ⟨_, PSs.nox (pss_one (ps_ret (pe_PrP (K := K) MPr rfl hr at_E0 (pa_cons (pe_lc (own := [("_law_row", 1)]) (g := gName 1) (tt := tYes) rfl sc_law_made.nd (pi_list (pv 0)) (blkOk_by (N := ["_law_rows", "_law_row"]) (sc := defScope s_law_made) (by decide +kernel)) (fun _ _ _ _ _ => (pg_name (i := 1) sc_law_made.nd rfl (.inl rfl))) (fun _ _ _ _ _ => pts_nil) (fun _ _ _ _ _ => (pe_dn dMLoop hr (pa_cons (pv 1) pa_nil)))) pa_nil)))), ?_⟩
    refine ⟨_, rfl, r, rfl, ⟨_, SqL.of hr0⟩, fun D hD => ?_⟩
    refine lc_list (K := K) (xs := xs) (fun i Hc => ∃ ws, Hc D = some (.lst ws) ∧ Fa (LpOb K Hc) ws (ls.take i) ∧ Same H Hc) ⟨[], upd_same, .nil, Same.new _ (Same.refl H) hD⟩ (fun i Hc _ z => SqL.of (z.choose_spec.2.2 _ _ hr0)) ?_ ?_
    · rintro i v Hc hv ⟨ws, eD, fg, sc⟩
      obtain ⟨g, eg, dv⟩ := (ds.to (.of sc)).map' hv
      refine ⟨rfl, yes_of ?_⟩
      refine ⟨_, rfl, v, g, rfl, dv, ok g (List.mem_of_getElem? eg), fun v' H' s' hv' => ?_⟩
      have eD3 := s' _ _ eD
      refine ⟨ws, eD3, sz1l _ ?_, ws ++ [v'], upd_same, ?_, fun b o e => ?_⟩
      · rw [fg.1, List.length_take]
        omega
      · rw [List.take_add_one, eg]
        have msU : MS H' (upd H' D (.lst (ws ++ [v']))) := .updL eD3
        exact (fg.imp fun _ _ z => (z.same s').ms msU).snoc (hv'.ms msU)
      · rw [upd_ne (ne_of_none e hD)]
        exact s' _ _ (sc b o e)
    rintro H5 ⟨ws, eD, fg, s5⟩
    have lxs : xs.length = ls.length := by rw [ds.len, List.length_map]
    rw [lxs, List.take_length] at fg
    refine ⟨D, ws, _, rfl, .inl (SqL.of eD), lpNs_of fg, ?_, Out.ok ?_ fun p ys H6 s6 h6 _ _ _ => ?_⟩
    · refine Nat.le_trans (flat_bound (n := 12) fun l hl => ?_) (by omega)
      obtain ⟨_, _, _, _, _, _, _, _, _, _, _, _, _, _, _, _, n3, okS⟩ := ok l hl
      refine Nat.le_trans (flat_bound (n := 4) fun m hm => ?_) (by omega)
      obtain ⟨_, _, _, _, lr, _⟩ := okS m hm
      rw [List.length_cons, List.length_map]
      omega
    · unfold ckM
      rw [fg.1, if_pos (by omega)]
    · exact k _ _ (s5.trans s6) ⟨p, ws, ys, rfl, h6, fg.imp fun _ _ z => z.same s6⟩
end
end K26
set_option maxHeartbeats 4000000
namespace K26
open PySem PySem.Spec PyProof.Rows L2 Z
def tFCallK (K : PySem.W.Frag) (C2 : Addr) (m : Str) (sp : Sp) (E : XK) (ta : TE) (t : TA) : TE := fun σ H Q => ta σ H fun x H1 => ∃ a C dx fs q, x = .ref a ∧ H1 a = some (.ins C dx fs) ∧ Cls K C ∧ NoAttr K C m ∧ fs.lookup m = some (.ref q) ∧ t σ H1 fun vs H2 => (∃ dx fs, H2 q = some (.ins C2 dx fs)) ∧ sp (.ref q :: vs) H2 Q E
theorem pe_fcallK {X : Cx} {K : PySem.W.Frag} {CX : CXT} {k : Nat} {g C2 : Addr} {sp : Sp} {E : XK} {o e : Expr} {es : List Expr} {m : Str} {apos pos : Pos} {ta : TE} {t : TA} {pl : Sem Bool} (hK : X.K = K) (he : PE X o ta) (c : StX.CallO K C2 g) (F : FnR X.prog X.w K X.mg X.base CX k g sp) (hr : Room k X.A) (hx : Passes CX X E) (ha : PA X (e :: es) t)
    (ht : eval (.Call (.Attribute o m apos) (e :: es) [] pos) X.env = (do
      let ov ← eval o X.env
      standAt apos.atName
      let (f, first) ← holding [ov] (getMethod ov m pl)
      callWith pos f first (backTo pos (starEach (e :: es) X.env)) (backToKw pos (keywordEach [] X.env))) := by rfl)
    (hst : starEach (e :: es) X.env = (false, eval e X.env) :: starEach es X.env := by rfl) (hpl : (backTo pos (starEach es X.env)).any (·.1) = false := by rfl) :
    PE X (.Call (.Attribute o m apos) (e :: es) [] pos) (tFCallK K C2 m sp E ta t) := by
  subst hK
  exact pe_fcall he c F hr hx ha ht hst hpl
def tEither (t1 t2 : TE) : TE := fun σ H Q => t1 σ H Q ∨ t2 σ H Q
theorem pe_either {X : Cx} {e : Expr} {t1 t2 : TE} (h1 : PE X e t1) (h2 : PE X e t2) : PE X e (tEither t1 t2) := ⟨fun pins s σ H Q I h => h.elim (h1.run pins s σ H Q I) (h2.run pins s σ H Q I)⟩
def pv_ (a c d n : Int) : Int := (a * n + c).fdiv d
/-- how many turns from the least counter on -/
def mt_ (l h S : Int) : Int := if -((l - h).fdiv S) > 0 then -((l - h).fdiv S) else 0
/-- the least counter -/
def lc_ (l S : Int) : Int := if 0 ≤ l then l else l.fmod S
def lpL (l : LpM) (n : Int) : Int := lc_ (pv_ l.l0 l.l1 l.l2 n) l.S
def lpN (l : LpM) (n : Int) : Int := mt_ (lpL l n) (pv_ l.h0 l.h1 l.h2 n) l.S
def gdV (g : Gd) (i n : Int) : Bool := match g with
  | .lea a b c => decide (0 ≤ a * i + b * n + c)
  | .rst a b c m r => decide ((a * i + b * n + c).fmod m = r)
def stDone (s : StM) (i n : Int) : Bool := s.gds.all fun g => gdV g i n
theorem sm_of {x : Int} (h1 : -999 ≤ x) (h2 : x ≤ 999) : Sm x := by unfold Sm; omega
section
variable (K : PySem.W.Frag)
def spSCall : Sp := fun vs H Q _ => ∃ (p : Addr) (a b c i n : Int), vs = [.ref p, .int i, .int n] ∧ StrAt K H p a b c ∧ Sm a ∧ Sm b ∧ Q (.int (a * i + b * n + c)) H
def spAH : Sp := fun vs H Q _ => ∃ (p : Addr) (a b c i n : Int), vs = [.ref p, .int i, .int n] ∧ AtlAt K H p a b c ∧ Sm a ∧ Sm b ∧ Q (.bl (decide (0 ≤ a * i + b * n + c))) H
def spRH : Sp := fun vs H Q _ => ∃ (p : Addr) (a b m r i n : Int), vs = [.ref p, .int i, .int n] ∧ RstAt K H p a b m r ∧ Sm a ∧ Sm b ∧ m ≠ 0 ∧ Q (.bl (decide ((a * i + b * n + 0).fmod m = r))) H
def spDone : Sp := fun vs H Q _ => ∃ (v : V) (s : StM) (i n : Int), vs = [v, .int i, .int n] ∧ StOb K H v s ∧ StOk s ∧ ∀ H', Same H H' → Q (.bl (stDone s i n)) H'
def spTurns : Sp := fun vs H Q _ => ∃ (v : V) (l : LpM) (f n : Int), vs = [v, .int f, .int n] ∧ LpOb K H v l ∧ LpOk l ∧ Q (.int (mt_ f (pv_ l.h0 l.h1 l.h2 n) l.S)) H
def spLC : Sp := fun vs H Q _ => ∃ (v : V) (l : LpM) (n : Int), vs = [v, .int n] ∧ LpOb K H v l ∧ LpOk l ∧ Q (.int (lpL l n)) H
def spMT : Sp := fun vs H Q _ => ∃ (v : V) (l : LpM) (n : Int), vs = [v, .int n] ∧ LpOb K H v l ∧ LpOk l ∧ Q (.int (lpN l n)) H
def spCO : Sp := fun vs H Q _ => ∃ (v : V) (l : LpM) (n k : Int), vs = [v, .int n, .int k] ∧ LpOb K H v l ∧ LpOk l ∧ 0 ≤ k ∧ k ≤ lpN l n - 1 ∧ Q (.int (lpL l n + (if l.dn = true then lpN l n - 1 - k else k) * l.S)) H
end
/-- a place may be called, a sum may be called -/
structure PC (P : Program) (w : World) (K : PySem.W.Frag) (mg : Str → Option Value) (base : Heap) : Prop where
  call : ∃ fd, FnOk P w K mg base CX0 2 (He.ma K (CP K) "__call__") fd ["self", "i", "n"] (spPCall K) ∧ Binds K fd ["self", "i", "n"] [] ∧ StX.CallO K (CP K) (He.ma K (CP K) "__call__")
  calS : ∃ fd, FnOk P w K mg base CX0 2 (He.ma K (CS K) "__call__") fd ["self", "i", "n"] (spSCall K) ∧ Binds K fd ["self", "i", "n"] [] ∧ StX.CallO K (CS K) (He.ma K (CS K) "__call__")
theorem lp_no (lo hi st : Addr) (S : Int) (dn : Bool) {m : Str} (h1 : ¬ m = "low") (h2 : ¬ m = "high") (h3 : ¬ m = "statements") (h4 : ¬ m = "step") (h5 : ¬ m = "down") : (lpf lo hi st S dn).lookup m = none := by
  unfold lpf
  rw [lookup_putF, if_neg h5, lookup_putF, if_neg h4, lookup_putF, if_neg h3, lookup_putF, if_neg h2, lookup_putF, if_neg h1]
  rfl
theorem no_lc (lo hi st : Addr) (S : Int) (dn : Bool) : (lpf lo hi st S dn).lookup ("least_counter" : Str) = none := lp_no _ _ _ _ _ (by decide +kernel) (by decide +kernel) (by decide +kernel) (by decide +kernel) (by decide +kernel)
theorem no_mt (lo hi st : Addr) (S : Int) (dn : Bool) : (lpf lo hi st S dn).lookup ("many_turns" : Str) = none := lp_no _ _ _ _ _ (by decide +kernel) (by decide +kernel) (by decide +kernel) (by decide +kernel) (by decide +kernel)
theorem no_co (lo hi st : Addr) (S : Int) (dn : Bool) : (lpf lo hi st S dn).lookup ("counter_of" : Str) = none := lp_no _ _ _ _ _ (by decide +kernel) (by decide +kernel) (by decide +kernel) (by decide +kernel) (by decide +kernel)
section
variable {P : Program} {w : World} {K : PySem.W.Frag} {mg : Str → Option Value} {base : Heap}
theorem scStraight__call__ : FnScope ["self", "i", "n"] ["self", "i", "n"] (defScope iStraight__call__) := ⟨rfl, rfl, rfl, by decide +kernel, rfl, by decide +kernel, by decide +kernel⟩
theorem ok_SCall {fd : FuncData} (F : FnM K "Straight" "__call__" "Straight.__call__" iStraight__call__ fd) (dVal : Dn P w K mg base 1 "value_of" ["straight", "i", "n"] (spVal K)) : FnOk P w K mg base CX0 2 (He.ma K (CS K) "__call__") fd ["self", "i", "n"] (spSCall K) := by
  refine F.ok scStraight__call__ (fun vs H Q E h => ?_) (fun cdv A outer s H vs Q E hr h => ?_)
  · obtain ⟨p, a, b, c, i, n, rfl, _⟩ := h
    rfl
  · obtain ⟨p, a, b, c, i, n, rfl, hp, sa, sb, k⟩ := h
    refine ⟨_, PSs.nox (pss_one (ps_ret (pe_dn dVal hr (pa_cons (pv 0) (pa_cons (pv 1) (pa_cons (pv 2) pa_nil)))))), ?_⟩
    exact ⟨_, rfl, _, rfl, _, rfl, p, a, b, c, i, n, rfl, hp, sa, sb, k⟩
theorem scAtLeastholds : FnScope ["self", "i", "n"] ["self", "i", "n"] (defScope iAtLeastholds) := ⟨rfl, rfl, rfl, by decide +kernel, rfl, by decide +kernel, by decide +kernel⟩
theorem ok_AHolds {fd : FuncData} (F : FnM K "AtLeast" "holds" "AtLeast.holds" iAtLeastholds fd) (T : PrTx K mg) (dVal : Dn P w K mg base 1 "value_of" ["straight", "i", "n"] (spVal K)) : FnOk P w K mg base CX0 2 (He.ma K (CA K) "holds") fd ["self", "i", "n"] (spAH K) := by
  refine F.ok scAtLeastholds (fun vs H Q E h => ?_) (fun cdv A outer s H vs Q E hr h => ?_)
  · obtain ⟨p, a, b, c, i, n, rfl, _⟩ := h
    rfl
  · obtain ⟨p, a, b, c, i, n, rfl, ⟨dx, q, hp, hq⟩, ba, bb, k⟩ := h
    refine ⟨_, PSs.nox (pss_one (ps_ret (pe_cmpR op_ge (pe_dn dVal hr (pa_cons (pe_fld (pv 0) rfl) (pa_cons (pv 1) (pa_cons (pv 2) pa_nil)))) pe_int (nomark _)))), ?_⟩
    exact ⟨_, rfl, p, _, dx, _, _, rfl, hp, T.clA, T.nAS, af_s _, _, rfl, _, rfl, q, a, b, c, i, n, rfl, hq, ba, bb, _, _, rfl, rfl, k⟩
theorem scRestholds : FnScope ["self", "i", "n"] ["self", "i", "n"] (defScope iRestholds) := ⟨rfl, rfl, rfl, by decide +kernel, rfl, by decide +kernel, by decide +kernel⟩
theorem ok_RHolds {fd : FuncData} (F : FnM K "Rest" "holds" "Rest.holds" iRestholds fd) (T : PrTx K mg) (dVal : Dn P w K mg base 1 "value_of" ["straight", "i", "n"] (spVal K)) : FnOk P w K mg base CX0 2 (He.ma K (CR K) "holds") fd ["self", "i", "n"] (spRH K) := by
  refine F.ok scRestholds (fun vs H Q E h => ?_) (fun cdv A outer s H vs Q E hr h => ?_)
  · obtain ⟨p, a, b, m, r, i, n, rfl, _⟩ := h
    rfl
  · obtain ⟨p, a, b, m, r, i, n, rfl, ⟨dx, q, hp, hq⟩, ba, bb, m0, k⟩ := h
    refine ⟨_, PSs.nox (pss_one (ps_ret (pe_cmpR op_eq (pe_op op_modN (pe_dn dVal hr (pa_cons (pe_fld (pv 0) rfl) (pa_cons (pv 1) (pa_cons (pv 2) pa_nil)))) (pe_fld (pv 0) rfl)) (pe_fld (pv 0) rfl) (nomark _)))), ?_⟩
    refine ⟨_, rfl, p, _, dx, _, _, rfl, hp, T.clQ, T.nRS, rf_s _ _ _, _, rfl, _, rfl, q, a, b, 0, i, n, rfl, hq, ba, bb, ?_⟩
    refine ⟨_, rfl, p, _, dx, _, _, rfl, hp, T.clQ, T.nRM, rf_m _ _ _, _, _, rfl, rfl, m0, _, rfl, p, _, dx, _, _, rfl, hp, T.clQ, T.nRR, rf_r _ _ _, rfl, ?_⟩
    have e : decide (V.int ((a * i + b * n + 0).fmod m) = V.int r) = decide ((a * i + b * n + 0).fmod m = r) := decide_eq_decide.mpr ⟨V.int.inj, congrArg V.int⟩
    rw [← e] at k
    exact k
theorem sc_turns_from : FnScope ["loop", "least", "n"] ["loop", "least", "n"] (defScope s_turns_from) := ⟨rfl, rfl, rfl, by decide +kernel, rfl, by decide +kernel, by decide +kernel⟩
theorem ok_turns {f : Addr} {fd : FuncData} (F : FnP K "turns_from" s_turns_from f fd) (T : LwTx K mg) (C : PC P w K mg base) : FnOk P w K mg base CX0 3 f fd ["loop", "least", "n"] (spTurns K) := by
  refine F.ok sc_turns_from (fun vs H Q E h => ?_) (fun cdv A outer s H vs Q E hr h => ?_)
  · obtain ⟨v, l, f, n, rfl, _⟩ := h
    rfl
  · obtain ⟨v, l, f, n, rfl, ⟨p, t, u, xs, rfl, ⟨dx, lo, hi, st, hp, hlo, hhi, hst⟩, f1, f2, _⟩, ok, k⟩ := h
    obtain ⟨fdc, Fc, hbc, cc⟩ := C.call
    refine ⟨_, PSs.nox (pss_one (ps_ret (pe_callB (call_max2 rfl) (by rfl) T.max (by decide +kernel) (pa_cons pe_int (pa_cons (pe_un un_neg (pe_op op_fdivN (pe_op op_sub (pv 1) (pe_fcallK (K := K) rfl (pv 0) cc (FnOk.raw Fc hbc .nil) (hr.mono (by decide)) pass0 (pa_cons pe_int (pa_cons (pv 2) pa_nil)))) (pe_fld (pv 0) rfl))) pa_nil))))), ?_⟩
    obtain ⟨dh, qh, hh, _⟩ := id hhi
    obtain ⟨u0, u1, u2, u3, u4, u5, u6, ue⟩ := f2
    obtain ⟨_, _, _, _, _, _, _, _, _, _, _, _, S0, S1, _⟩ := ok
    refine ⟨_, rfl, _, rfl, p, _, dx, _, hi, rfl, hp, T.clL, T.nHi, lp_hi _ _ _ _ _, _, rfl, ⟨_, _, hh⟩, hi, _, _, _, _, 0, n, rfl, hhi, sm_of (by omega) (by omega), sm_of (by omega) (by omega), by omega, by omega, ?_⟩
    refine ⟨_, _, rfl, rfl, _, rfl, p, _, dx, _, _, rfl, hp, T.clL, T.nSp, lp_st _ _ _ _ _, _, _, rfl, rfl, ⟨by omega, by omega⟩, _, rfl, ?_⟩
    refine ⟨_, _, rfl, ?_⟩
    unfold mt_ pv_ at k
    have e : u.1 * 0 + u.2.1 * n + u.2.2.1 = u.2.1 * n + u.2.2.1 := by omega
    rw [e, ue]
    exact k
theorem scLoopleast_counter : FnScope ["self", "n", "low"] ["self", "n"] (defScope iLoopleast_counter) := ⟨rfl, rfl, rfl, by decide +kernel, rfl, by decide +kernel, by decide +kernel⟩
theorem ok_LC {fd : FuncData} (F : FnM K "Loop" "least_counter" "Loop.least_counter" iLoopleast_counter fd) (T : LwTx K mg) (C : PC P w K mg base) : FnOk P w K mg base CX0 3 (He.ma K (CL K) "least_counter") fd ["self", "n"] (spLC K) := by
  refine F.ok scLoopleast_counter (fun vs H Q E h => ?_) (fun cdv A outer s H vs Q E hr h => ?_)
  · obtain ⟨v, l, n, rfl, _⟩ := h
    rfl
  · obtain ⟨v, l, n, rfl, ⟨p, t, u, xs, rfl, ⟨dx, lo, hi, st, hp, hlo, hhi, hst⟩, f1, f2, _⟩, ok, k⟩ := h
    obtain ⟨fdc, Fc, hbc, cc⟩ := C.call
    refine ⟨_, PSs.nox (pss_cons (ps_set (i := 2) scLoopleast_counter.nd rfl (Or.inl rfl) (pe_fcallK (K := K) rfl (pv 0) cc (FnOk.raw Fc hbc .nil) (hr.mono (by decide)) pass0 (pa_cons pe_int (pa_cons (pv 1) pa_nil))))
      (pss_one (ps_ret (pe_ifExp (pt_cmpR op_ge (pv 2) pe_int (nomark _)) (pv 2) (pe_op op_modN (pv 2) (pe_fld (pv 0) rfl)))))), ?_⟩
    obtain ⟨dh, qh, hh, _⟩ := id hlo
    obtain ⟨u0, u1, u2, u3, u4, u5, u6, ue⟩ := f1
    obtain ⟨_, _, _, _, _, _, _, _, _, _, _, _, S0, S1, _⟩ := ok
    refine ⟨_, rfl, p, _, dx, _, lo, rfl, hp, T.clL, T.nLo, lp_lo _ _ _ _ _, _, rfl, ⟨_, _, hh⟩, lo, _, _, _, _, 0, n, rfl, hlo, sm_of (by omega) (by omega), sm_of (by omega) (by omega), by omega, by omega, ?_⟩
    have e : t.1 * 0 + t.2.1 * n + t.2.2.1 = t.2.1 * n + t.2.2.1 := by omega
    rw [e, ue]
    unfold lpL lc_ pv_ at k
    refine ⟨_, rfl, _, _, rfl, rfl, _, rfl, ite2 (fun h => ?_) (fun h => ?_)⟩
    · rw [if_pos (of_decide_eq_true h)] at k
      exact ⟨_, rfl, k⟩
    · rw [if_neg (fun z => h (decide_eq_true z))] at k
      exact ⟨_, rfl, _, rfl, p, _, dx, _, _, rfl, hp, T.clL, T.nSp, lp_st _ _ _ _ _, _, _, rfl, rfl, by omega, k⟩
end
end K26
set_option maxHeartbeats 4000000
namespace K26
open PySem PySem.Spec PyProof.Rows L2 Z
/-- the counters of the turns, in order -/
def due (l S : Int) (m : Nat) (dn : Bool) : List Int := (List.range m).map fun (j : Nat) => l + (if dn = true then (m : Int) - 1 - (j : Int) else (j : Int)) * S
theorem pv_bd {a c d n : Int} (h1 : 0 ≤ a) (h2 : a ≤ 3) (h3 : -20 ≤ c) (h4 : c ≤ 20) (h5 : 1 ≤ d) (n0 : 0 ≤ n) (n8 : n ≤ 8) : -50 ≤ pv_ a c d n ∧ pv_ a c d n ≤ 50 := by
  have e : 0 ≤ a * n ∧ a * n ≤ 24 := by
    have h7 : a = 0 ∨ a = 1 ∨ a = 2 ∨ a = 3 := by omega
    rcases h7 with z | z | z | z <;> subst z <;> omega
  exact fdiv_bd (by omega) (by decide) (by omega) (by omega)
/-- the walk of the row is that of the least counter on -/
theorem walk_due {lo hi S : Int} (hS : 1 ≤ S) : walk lo S (rn_ lo hi S).toNat = (List.range (mt_ (lc_ lo S) hi S).toNat).map fun (j : Nat) => lc_ lo S + (j : Int) * S := by
  unfold mt_
  rw [turns_eq hS]
  unfold lc_
  by_cases h : 0 ≤ lo
  · rw [if_pos h]
    have q := walk_eq (lo := lo) (c := S) (l := lo) (k := 0) hS h (by omega) (.inl rfl) (rn_ lo hi S).toNat
    rw [Nat.sub_zero] at q
    exact q
  · rw [if_neg h, fm (show 0 < S by omega)]
    have m0 := Int.emod_nonneg lo (show S ≠ 0 by omega)
    have m1 := Int.emod_lt_of_pos lo (show 0 < S by omega)
    have e := Int.emod_add_mul_ediv lo S
    have k0 : 0 ≤ -(lo / S) := by
      have : lo / S < 0 := Int.ediv_neg_of_neg_of_pos (by omega) (by omega)
      omega
    obtain ⟨k, hk⟩ : ∃ k : Nat, (k : Int) = -(lo / S) := ⟨(-(lo / S)).toNat, by omega⟩
    have e2 : lo % S = lo + (k : Int) * S := by
      rw [hk, Int.neg_mul, Int.mul_comm]
      omega
    have q := walk_eq (lo := lo) (c := S) (l := lo % S) (k := k) hS m0 e2 (.inr m1) (rn_ lo hi S).toNat
    rw [q]
    have cnt : (rn_ lo hi S).toNat - k = (rn_ (lo % S) hi S).toNat := by
      rw [rn_pos hS, rn_pos hS]
      by_cases c1 : lo < hi
      · rw [if_pos c1]
        have e3 : hi - lo - 1 = (hi - lo % S - 1) + (k : Int) * S := by omega
        rw [e3, Int.add_mul_ediv_right _ _ (by omega)]
        by_cases c2 : lo % S < hi
        · rw [if_pos c2]
          have := Int.ediv_nonneg (show 0 ≤ hi - lo % S - 1 by omega) (show 0 ≤ S by omega)
          omega
        · rw [if_neg c2]
          have : (hi - lo % S - 1) / S < 0 := Int.ediv_neg_of_neg_of_pos (by omega) (by omega)
          omega
      · rw [if_neg c1, if_neg (by omega)]
        exact Nat.zero_sub k
    rw [cnt]
theorem due_up (l S : Int) (m : Nat) : (List.range m).map (fun (j : Nat) => l + (j : Int) * S) = due l S m false := by
  unfold due
  simp
theorem due_dn (l S : Int) (m : Nat) : ((List.range m).map (fun (j : Nat) => l + (j : Int) * S)).reverse = due l S m true := by
  unfold due
  apply List.ext_getElem
  · simp
  · intro i h1 h2
    simp only [List.length_reverse, List.length_map, List.length_range] at h1
    simp [List.getElem_reverse]
    have e : ((m - 1 - i : Nat) : Int) = (m : Int) - 1 - (i : Int) := by omega
    rw [e]
/-- the counters of a loop's turns, in order -/
def lpCs (l : LpM) (n : Int) : List Int := due (lpL l n) l.S (lpN l n).toNat l.dn
def spCounters : Sp := fun vs H Q _ => ∃ (v : V) (l : LpM) (n : Int), vs = [v, .int n] ∧ DT H v (lpD l) ∧ LpOk l ∧ 0 ≤ n ∧ n ≤ 8 ∧ ∀ D H', Same H H' → H D = none → H' D = some (.lst ((lpCs l n).map V.int)) → Q (.ref D) H'
def spTurnsF : Sp := fun vs H Q _ => ∃ (v : V) (l : LpM) (n : Int), vs = [v, .int n] ∧ DT H v (lpD l) ∧ LpOk l ∧ Q (.int (lpN l n)) H
def spValue : Sp := fun vs H Q _ => ∃ (t : Addr) (a b c i n : Int) (rest : List V), vs = [.ref t, .int i, .int n] ∧ H t = some (.tup (.int a :: .int b :: .int c :: rest)) ∧ Sm a ∧ Sm b ∧
  ((rest = [] ∧ Q (.int (a * i + b * n + c)) H) ∨ ∃ d : Int, rest = [.int d] ∧ 1 ≤ d ∧ d ≤ 3 ∧ Q (.int ((a * i + b * n + c).fdiv d)) H)
def spGuardH : Sp := fun vs H Q _ => ∃ (v : V) (g : Gd) (i n : Int), vs = [v, .int i, .int n] ∧ DT H v (gdD g) ∧ GdOk g ∧ Q (.bl (gdV g i n)) H
/-- bools found one by one -/
theorem all_take_succ {α : Type} {p : α → Bool} {l : List α} {i : Nat} {a : α} (h : l[i]? = some a) : (l.take (i + 1)).map p = (l.take i).map p ++ [p a] := by
  rw [List.take_add_one, h, List.map_append]
  rfl
theorem all_map {α : Type} {p : α → Bool} (l : List α) : (l.map p).all id = l.all p := by
  induction l with
  | nil => rfl
  | cons a l ih => simp
theorem ah_no (q : Addr) : (af q).lookup ("holds" : Str) = none := af_no q (by decide +kernel)
theorem rh_no (q : Addr) (m r : Int) : (rf q m r).lookup ("holds" : Str) = none := rf_no q m r (by decide +kernel) (by decide +kernel) (by decide +kernel)
theorem sm_fd {a b c : Int} (h : GdOk (.lea a b c)) : Sm (a.fdiv (g2 a b)) ∧ Sm (b.fdiv (g2 a b)) := by
  obtain ⟨h1, h2, h3, h4, h5, h6⟩ := h
  by_cases z : g2 a b = 0
  · obtain ⟨rfl, rfl⟩ := g2_zero z
    rw [Int.zero_fdiv]
    exact ⟨sm_of (by decide) (by decide), sm_of (by decide) (by decide)⟩
  · have g0 : (0 : Int) < (g2 a b : Int) := by omega
    have ga := fdiv_bd (x := a) (M := 12) g0 (by decide) (by omega) (by omega)
    have gb := fdiv_bd (x := b) (M := 12) g0 (by decide) (by omega) (by omega)
    exact ⟨sm_of (by omega) (by omega), sm_of (by omega) (by omega)⟩
theorem sm_fm {x m : Int} (h2 : 2 ≤ m) (h4 : m ≤ 4) : Sm (x.fmod m) := by
  have := fmod_small (x := x) h2 h4
  exact sm_of (by omega) (by omega)
/-- the conditions' methods -/
structure HC (P : Program) (w : World) (K : PySem.W.Frag) (mg : Str → Option Value) (base : Heap) : Prop where
  ah : ∃ fd, FnOk P w K mg base CX0 2 (He.ma K (CA K) "holds") fd ["self", "i", "n"] (spAH K) ∧ Binds K fd ["self", "i", "n"] [] ∧ Meth K (CA K) "holds" (He.ma K (CA K) "holds")
  rh : ∃ fd, FnOk P w K mg base CX0 2 (He.ma K (CR K) "holds") fd ["self", "i", "n"] (spRH K) ∧ Binds K fd ["self", "i", "n"] [] ∧ Meth K (CR K) "holds" (He.ma K (CR K) "holds")
def LM1 (P : Program) (w : World) (K : PySem.W.Frag) (mg : Str → Option Value) (base : Heap) : Prop := ∃ fd, FnOk P w K mg base CX0 3 (He.ma K (CL K) "least_counter") fd ["self", "n"] (spLC K) ∧ Binds K fd ["self", "n"] [] ∧ Meth K (CL K) "least_counter" (He.ma K (CL K) "least_counter")
theorem LpOb.ref {K : PySem.W.Frag} {H : Hp} {v : V} {l : LpM} (h : LpOb K H v l) : ∃ p dx lo hi st, v = .ref p ∧ H p = some (.ins (CL K) dx (lpf lo hi st l.S l.dn)) := by
  obtain ⟨p, t, u, xs, e, ⟨dx, lo, hi, st, h1, _⟩, _⟩ := h
  exact ⟨p, dx, lo, hi, st, e, h1⟩
section
variable {P : Program} {w : World} {K : PySem.W.Frag} {mg : Str → Option Value} {base : Heap}
theorem scLoopmany_turns : FnScope ["self", "n"] ["self", "n"] (defScope iLoopmany_turns) := ⟨rfl, rfl, rfl, by decide +kernel, rfl, by decide +kernel, by decide +kernel⟩
theorem ok_MT {fd : FuncData} (F : FnM K "Loop" "many_turns" "Loop.many_turns" iLoopmany_turns fd) (T : LwTx K mg) (L : LM1 P w K mg base) (dTurns : Dn P w K mg base 3 "turns_from" ["loop", "least", "n"] (spTurns K)) : FnOk P w K mg base CX0 4 (He.ma K (CL K) "many_turns") fd ["self", "n"] (spMT K) := by
  refine F.ok scLoopmany_turns (fun vs H Q E h => ?_) (fun cdv A outer s H vs Q E hr h => ?_)
  · obtain ⟨v, l, n, rfl, _⟩ := h
    rfl
  · obtain ⟨v, l, n, rfl, hL, ok, k⟩ := h
    obtain ⟨fdl, Fl, hbl, cl⟩ := L
    refine ⟨_, PSs.nox (pss_one (ps_ret (pe_dn dTurns hr (pa_cons (pv 0) (pa_cons (pe_meth (pv 0) T.clL cl Fl (hr.mono (by decide)) hbl .nil pass0 (pa_cons (pv 1) pa_nil)) (pa_cons (pv 1) pa_nil)))))), ?_⟩
    obtain ⟨p, dx, lo, hi, st, rfl, hp⟩ := hL.ref
    exact ⟨_, rfl, _, rfl, p, dx, _, rfl, hp, no_lc _ _ _ _ _, _, rfl, _, l, n, rfl, hL, ok, _, rfl, _, l, _, n, rfl, hL, ok, k⟩
theorem scLoopcounter_of : FnScope ["self", "n", "turn", "least", "many", "place"] ["self", "n", "turn"] (defScope iLoopcounter_of) := ⟨rfl, rfl, rfl, by decide +kernel, rfl, by decide +kernel, by decide +kernel⟩
theorem ok_CO {fd : FuncData} (F : FnM K "Loop" "counter_of" "Loop.counter_of" iLoopcounter_of fd) (T : LwTx K mg) (L : LM1 P w K mg base) (dTurns : Dn P w K mg base 3 "turns_from" ["loop", "least", "n"] (spTurns K))
    (dIsIntFrom : Dn P w K mg base 2 "is_integer_from" ["value", "low", "high"] spIntFrom) : FnOk P w K mg base CX0 4 (He.ma K (CL K) "counter_of") fd ["self", "n", "turn"] (spCO K) := by
  refine F.ok scLoopcounter_of (fun vs H Q E h => ?_) (fun cdv A outer s H vs Q E hr h => ?_)
  · obtain ⟨v, l, n, k, rfl, _⟩ := h
    rfl
  · obtain ⟨v, l, n, k, rfl, hL, ok, k0, k1, kk⟩ := h
    obtain ⟨fdl, Fl, hbl, cl⟩ := L
    refine ⟨_, PSs.nox (pss_cons (ps_set (i := 3) scLoopcounter_of.nd rfl (Or.inl rfl) (pe_meth (pv 0) T.clL cl Fl (hr.mono (by decide)) hbl .nil pass0 (pa_cons (pv 1) pa_nil)))
      (pss_cons (ps_set (i := 4) scLoopcounter_of.nd rfl (Or.inl rfl) (pe_dn dTurns hr (pa_cons (pv 0) (pa_cons (pv 3) (pa_cons (pv 1) pa_nil)))))
      (pss_cons (ps_if (pt_not (pt_val (pe_dn dIsIntFrom hr (pa_cons (pv 2) (pa_cons pe_int (pa_cons (pe_op op_sub (pv 4) pe_int) pa_nil)))))) (pss_one ps_never) pss_nil)
      (pss_cons (ps_set (i := 5) scLoopcounter_of.nd rfl (Or.inl rfl) (pe_ifExp (pt_val (pe_fld (pv 0) rfl)) (pe_op op_sub (pe_op op_sub (pv 4) pe_int) (pv 2)) (pv 2)))
      (pss_one (ps_ret (pe_op op_add (pv 3) (pe_op op_mul (pv 5) (pe_fld (pv 0) rfl))))))))), ?_⟩
    obtain ⟨p, dx, lo, hi, st, rfl, hp⟩ := hL.ref
    refine ⟨_, rfl, p, dx, _, rfl, hp, no_lc _ _ _ _ _, _, rfl, _, l, n, rfl, hL, ok, ?_⟩
    refine ⟨_, rfl, _, rfl, _, rfl, _, l, _, n, rfl, hL, ok, ?_⟩
    refine ⟨_, rfl, _, rfl, _, _, rfl, rfl, k, 0, _, rfl, ?_⟩
    have S0 : 1 ≤ l.S ∧ l.S ≤ 3 := by
      obtain ⟨_, _, _, _, _, _, _, _, _, _, _, _, S0, S1, _⟩ := ok
      exact ⟨S0, S1⟩
    unfold lpN at k1 kk
    rw [decide_eq_true ⟨k0, k1⟩]
    refine ⟨_, rfl, iteF ?_⟩
    refine ⟨_, rfl, p, _, dx, _, _, rfl, hp, T.clL, T.nDn, lp_dn _ _ _ _ _, ?_⟩
    cases hdn : l.dn
    · rw [hdn] at kk
      exact ⟨_, rfl, iteF ⟨_, rfl, _, rfl, _, rfl, _, rfl, p, _, dx, _, _, rfl, hp, T.clL, T.nSp, lp_st _ _ _ _ _, _, _, rfl, rfl, .inr ⟨by omega, by omega⟩, _, _, rfl, rfl, kk⟩⟩
    · rw [hdn] at kk
      exact ⟨_, rfl, iteT ⟨_, rfl, _, _, rfl, rfl, _, rfl, _, _, rfl, rfl, _, rfl, _, rfl, _, rfl, p, _, dx, _, _, rfl, hp, T.clL, T.nSp, lp_st _ _ _ _ _, _, _, rfl, rfl, .inr ⟨by omega, by omega⟩, _, _, rfl, rfl, kk⟩⟩
theorem scStatementis_done : FnScope ["self", "i", "n", "condition"] ["self", "i", "n"] (defScope iStatementis_done) := ⟨rfl, rfl, rfl, by decide +kernel, rfl, by decide +kernel, by decide +kernel⟩
theorem ok_done {fd : FuncData} (F : FnM K "Statement" "is_done" "Statement.is_done" iStatementis_done fd) (T : LwTx K mg) (C : HC P w K mg base) : FnOk P w K mg base CX0 3 (He.ma K (CSt K) "is_done") fd ["self", "i", "n"] (spDone K) := by
  refine F.ok scStatementis_done (fun vs H Q E h => ?_) (fun cdv A outer s H vs Q E hr h => ?_)
  · obtain ⟨v, m, i, n, rfl, _⟩ := h
    rfl
  · obtain ⟨v, m, i, n, rfl, ⟨p, rs, cs, rfl, ⟨dx, q, r, g, hp, hq, hrs, hcs⟩, f1, f2⟩, ok, k⟩ := h
    obtain ⟨fda, Fa, hba, ca⟩ := C.ah
    obtain ⟨fdr, Fr, hbr, cr⟩ := C.rh
    refine ⟨_, PSs.nox (pss_one (ps_ret (pe_callB (cr_all rfl) (by rfl) T.all (by decide +kernel) (pa_cons (pe_lc (own := [("condition", 3)]) (g := gName 3) (tt := tYes) rfl scStatementis_done.nd (pi_tup (pe_fld (pv 0) rfl)) (blkOk_by (N := ["self", "i", "n", "condition"]) (sc := defScope iStatementis_done) (by decide +kernel)) (fun _ _ _ _ _ => (pg_name (i := 3) scStatementis_done.nd rfl (.inl rfl))) (fun _ _ _ _ _ => pts_nil) (fun _ _ _ _ _ => (pe_either (pe_meth (pv 3) T.clA ca Fa (hr.mono (by decide)) hba .nil pass0 (pa_cons (pv 1) (pa_cons (pv 2) pa_nil))) (pe_meth (pv 3) T.clQ cr Fr (hr.mono (by decide)) hbr .nil pass0 (pa_cons (pv 1) (pa_cons (pv 2) pa_nil)))))) pa_nil)))), ?_⟩
    refine ⟨_, rfl, p, _, dx, _, _, rfl, hp, T.clM, T.nMG, stf_g _ _ _ _ _, g, rfl, ⟨_, hcs⟩, fun D hD => ?_⟩
    refine lc_tup (K := K) (xs := cs) (fun j Hc => Hc D = some (.lst (((m.gds.take j).map fun g => gdV g i n).map V.bl)) ∧ Same H Hc) ⟨upd_same, Same.new _ (Same.refl H) hD⟩ (fun j Hc _ z => SqT.same hcs z.2) ?_ ?_
    · rintro j v Hc hv ⟨eD, sc⟩
      obtain ⟨gm, eg, ob⟩ := (f2.imp fun _ _ z => z.same sc).at hv
      have gok := ok.2.2.2.2.2.2.2 gm (List.mem_of_getElem? eg)
      refine ⟨rfl, yes_of ?_⟩
      have fin : Q = Q := rfl
      have lm : (((m.gds.take j).map fun g => gdV g i n).map V.bl).length < sizeLine := sz1l _ (by
        rw [List.length_map, List.length_map, List.length_take]
        have := ok.2.2.2.2.2.1
        omega)
      have nxt : ∃ acc, Hc D = some (.lst acc) ∧ acc.length < sizeLine ∧ ((upd Hc D (.lst (acc ++ [.bl (gdV gm i n)]))) D = some (.lst (((m.gds.take (j + 1)).map fun g => gdV g i n).map V.bl)) ∧ Same H (upd Hc D (.lst (acc ++ [.bl (gdV gm i n)])))) := by
        refine ⟨_, eD, lm, ?_, fun b o e => ?_⟩
        · rw [upd_same, all_take_succ eg, List.map_append]
          rfl
        · rw [upd_ne (ne_of_none e hD)]
          exact sc b o e
      cases gm with
      | lea a b c =>
        obtain ⟨pa, rfl, ha⟩ := ob
        obtain ⟨dxa, qa, ha1, ha2⟩ := id ha
        refine .inl ⟨_, rfl, pa, dxa, _, rfl, ha1, ah_no _, _, rfl, _, rfl, pa, _, _, _, i, n, rfl, ha, (sm_fd gok).1, (sm_fd gok).2, ?_⟩
        · have e := least_form (a := a) (b := b) (c := c) (i := i) (n := n)
          rw [e]
          exact nxt
      | rst a b c md r =>
        obtain ⟨pa, rfl, ha⟩ := ob
        obtain ⟨dxa, qa, ha1, ha2⟩ := id ha
        refine .inr ⟨_, rfl, pa, dxa, _, rfl, ha1, rh_no _ _ _, _, rfl, _, rfl, pa, _, _, _, _, i, n, rfl, ha, sm_fm gok.2.1 gok.2.2.1, sm_fm gok.2.1 gok.2.2.1, (by have := gok.2.1; omega), ?_⟩
        · have e := rest_form (a := a) (b := b) (c := c) (i := i) (n := n) gok.2.1 gok.2.2.1 gok.2.2.2.1 gok.2.2.2.2
          rw [e]
          exact nxt
    · rintro Hc ⟨eD, sc⟩
      have lcs : cs.length = m.gds.length := f2.1
      rw [lcs, List.take_length] at eD
      refine ⟨D, _, rfl, SqL.of eD, ?_⟩
      rw [all_map]
      exact k Hc sc
end
end K26
set_option maxHeartbeats 4000000
namespace K26
open PySem PySem.Spec PyProof.Rows L2 Z
section
variable {P : Program} {w : World} {K : PySem.W.Frag} {mg : Str → Option Value} {base : Heap}
theorem sm3_a {a b c : Int} (h : sm3 a b c) : Sm a ∧ Sm b := by
  obtain ⟨h1, h2, h3, h4, _⟩ := h
  exact ⟨sm_of (by omega) (by omega), sm_of (by omega) (by omega)⟩
theorem sc_law_value : FnScope ["_law_row", "_law_i", "_law_n", "_law_total"] ["_law_row", "_law_i", "_law_n"] (defScope s_law_value) := ⟨rfl, rfl, rfl, by decide +kernel, rfl, by decide +kernel, by decide +kernel⟩
theorem ok_value {f : Addr} {fd : FuncData} (F : FnP K "_law_value" s_law_value f fd) (T : LwTx K mg) : FnOk P w K mg base CX0 1 f fd ["_law_row", "_law_i", "_law_n"] spValue := by
  refine F.ok sc_law_value (fun vs H Q E h => ?_) (fun cdv A outer s H vs Q E hr h => ?_)
  · obtain ⟨t, a, b, c, i, n, rest, rfl, _⟩ := h
    rfl
  · obtain ⟨t, a, b, c, i, n, rest, rfl, ht, sa, sb, k⟩ := h
    refine ⟨_, PSs.nox (pss_cons (ps_set (i := 3) sc_law_value.nd rfl (Or.inl rfl) (pe_op op_add (pe_op op_add (pe_op op_mul (pe_ix (ix_tupK (K := K) rfl) (pv 0) pe_int (fun _ _ => rfl)) (pv 1)) (pe_op op_mul (pe_ix (ix_tupK (K := K) rfl) (pv 0) pe_int (fun _ _ => rfl)) (pv 2))) (pe_ix (ix_tupK (K := K) rfl) (pv 0) pe_int (fun _ _ => rfl))))
      (pss_cons (ps_if (pt_cmpR op_eq (pe_callB call_len_seq (by rfl) T.len PySem.boot_len (pa_cons (pv 0) pa_nil)) pe_int (nomark _)) (pss_one (ps_ret (pe_op op_fdivN (pv 3) (pe_ix (ix_tupK (K := K) rfl) (pv 0) pe_int (fun _ _ => rfl))))) pss_nil)
      (pss_one (ps_ret (pv 3))))), ?_⟩
    refine ⟨_, rfl, t, _, _, _, rfl, rfl, SqT.of ht, at0, _, rfl, _, _, rfl, rfl, .inl sa, ?_⟩
    refine ⟨_, rfl, t, _, _, _, rfl, rfl, SqT.of ht, at1, _, rfl, _, _, rfl, rfl, .inl sb, _, _, rfl, rfl, ?_⟩
    refine ⟨_, rfl, t, _, _, _, rfl, rfl, SqT.of ht, at2, _, _, rfl, rfl, ?_⟩
    refine ⟨_, rfl, t, _, rfl, .inr (SqT.of ht), rfl, _, rfl, ?_⟩
    rcases k with ⟨rfl, k⟩ | ⟨d, rfl, d1, d3, k⟩
    · exact iteF ⟨_, rfl, k⟩
    · exact iteT ⟨_, rfl, _, rfl, t, _, _, _, rfl, rfl, SqT.of ht, at3, _, _, rfl, rfl, ⟨by omega, by omega⟩, k⟩
theorem sc_law_guard_holds : FnScope ["_law_guard", "_law_i", "_law_n"] ["_law_guard", "_law_i", "_law_n"] (defScope s_law_guard_holds) := ⟨rfl, rfl, rfl, by decide +kernel, rfl, by decide +kernel, by decide +kernel⟩
theorem ok_guardH {f : Addr} {fd : FuncData} (F : FnP K "_law_guard_holds" s_law_guard_holds f fd) (T : LwTx K mg) (dValue : Dn P w K mg base 1 "_law_value" ["_law_row", "_law_i", "_law_n"] spValue) : FnOk P w K mg base CX0 2 f fd ["_law_guard", "_law_i", "_law_n"] spGuardH := by
  refine F.ok sc_law_guard_holds (fun vs H Q E h => ?_) (fun cdv A outer s H vs Q E hr h => ?_)
  · obtain ⟨v, g, i, n, rfl, _⟩ := h
    rfl
  · obtain ⟨v, g, i, n, rfl, hd, ok, k⟩ := h
    refine ⟨_, PSs.nox (pss_cons (ps_if (pt_cmpR op_eq (pe_ix (ix_tupK (K := K) rfl) (pv 0) pe_int (fun _ _ => rfl)) pe_str (nomark _)) (pss_one (ps_ret (pe_cmpR op_eq (pe_op op_modN (pe_callTy call_int1 (by rfl) T.int (by decide +kernel) (pa_cons (pe_dn dValue hr (pa_cons (pe_ix (ix_tupK (K := K) rfl) (pv 0) pe_int (fun _ _ => rfl)) (pa_cons (pv 1) (pa_cons (pv 2) pa_nil)))) pa_nil)) (pe_ix (ix_tupK (K := K) rfl) (pv 0) pe_int (fun _ _ => rfl))) (pe_ix (ix_tupK (K := K) rfl) (pv 0) pe_int (fun _ _ => rfl)) (nomark _)))) pss_nil)
      (pss_one (ps_ret (pe_cmpR op_ge (pe_dn dValue hr (pa_cons (pe_ix (ix_tupK (K := K) rfl) (pv 0) pe_int (fun _ _ => rfl)) (pa_cons (pv 1) (pa_cons (pv 2) pa_nil)))) pe_int (nomark _))))), ?_⟩
    cases g with
    | lea a b c =>
      obtain ⟨q, xs, rfl, hq, ds⟩ := hd.tup'
      cases ds with
      | cons r1 r =>
        cases r with
        | cons r2 r =>
          cases r
          cases r1
          obtain ⟨t3, rfl, h3⟩ := dt3' r2
          refine ⟨_, rfl, q, _, _, _, rfl, rfl, SqT.of hq, at0, rfl, _, rfl, if_no (by decide +kernel) ?_⟩
          exact ⟨_, rfl, q, _, _, _, rfl, rfl, SqT.of hq, at1, _, rfl, _, rfl, t3, a, b, c, i, n, [], rfl, h3, (sm3_a ok).1, (sm3_a ok).2, .inl ⟨rfl, _, _, rfl, rfl, k⟩⟩
    | rst a b c m r =>
      obtain ⟨q, xs, rfl, hq, ds⟩ := hd.tup'
      obtain ⟨ok, m2, m4, r0, r1⟩ := ok
      cases ds with
      | cons d1 ds =>
        cases ds with
        | cons d2 ds =>
          cases ds with
          | cons d3 ds =>
            cases ds with
            | cons d4 ds =>
              cases ds
              cases d1
              cases d3
              cases d4
              obtain ⟨t3, rfl, h3⟩ := dt3' d2
              refine ⟨_, rfl, q, _, _, _, rfl, rfl, SqT.of hq, at0, rfl, _, rfl, if_yes (by decide +kernel) ?_⟩
              refine ⟨_, rfl, q, _, _, _, rfl, rfl, SqT.of hq, at1, _, rfl, _, rfl, t3, a, b, c, i, n, [], rfl, h3, (sm3_a ok).1, (sm3_a ok).2, .inl ⟨rfl, .inl ⟨_, rfl, ?_⟩⟩⟩
              refine ⟨_, rfl, q, _, _, _, rfl, rfl, SqT.of hq, at2, _, _, rfl, rfl, by omega, _, rfl, q, _, _, _, rfl, rfl, SqT.of hq, at3, rfl, ?_⟩
              have e : decide (V.int ((a * i + b * n + c).fmod m) = V.int r) = decide ((a * i + b * n + c).fmod m = r) := decide_eq_decide.mpr ⟨V.int.inj, congrArg V.int⟩
              have k : Q (.bl (decide ((a * i + b * n + c).fmod m = r))) H := k
              rw [← e] at k
              exact k
theorem sc_law_counters : FnScope ["_law_row", "_law_n", "_law_low", "_law_high", "_law_found", "_law_counter"] ["_law_row", "_law_n"] (defScope s_law_counters) := ⟨rfl, rfl, rfl, by decide +kernel, rfl, by decide +kernel, by decide +kernel⟩
theorem ok_counters {f : Addr} {fd : FuncData} (F : FnP K "_law_counters" s_law_counters f fd) (T : LwTx K mg) : FnOk P w K mg base CX0 1 f fd ["_law_row", "_law_n"] spCounters := by
  refine F.ok sc_law_counters (fun vs H Q E h => ?_) (fun cdv A outer s H vs Q E hr h => ?_)
  · obtain ⟨v, l, n, rfl, _⟩ := h
    rfl
  · obtain ⟨v, l, n, rfl, hd, ok, n0, n8, k⟩ := h
    obtain ⟨r, t1, t2, ts, xs, rfl, h1, h2, h3, _, _⟩ := dt_lp hd
    obtain ⟨a0, a1, c0, c1, d0, d1, x0, x1, z0, z1, u0, u1, S0, S1, _⟩ := ok
    refine ⟨_, PSs.nox (pss_cons (ps_set (i := 2) sc_law_counters.nd rfl (Or.inl rfl) (pe_op op_fdivN (pe_op op_add (pe_op op_mul (pe_ix (ix_tupK (K := K) rfl) (pe_ix (ix_tupK (K := K) rfl) (pv 0) pe_int (fun _ _ => rfl)) pe_int (fun _ _ => rfl)) (pv 1)) (pe_ix (ix_tupK (K := K) rfl) (pe_ix (ix_tupK (K := K) rfl) (pv 0) pe_int (fun _ _ => rfl)) pe_int (fun _ _ => rfl))) (pe_ix (ix_tupK (K := K) rfl) (pe_ix (ix_tupK (K := K) rfl) (pv 0) pe_int (fun _ _ => rfl)) pe_int (fun _ _ => rfl))))
      (pss_cons (ps_set (i := 3) sc_law_counters.nd rfl (Or.inl rfl) (pe_op op_fdivN (pe_op op_add (pe_op op_mul (pe_ix (ix_tupK (K := K) rfl) (pe_ix (ix_tupK (K := K) rfl) (pv 0) pe_int (fun _ _ => rfl)) pe_int (fun _ _ => rfl)) (pv 1)) (pe_ix (ix_tupK (K := K) rfl) (pe_ix (ix_tupK (K := K) rfl) (pv 0) pe_int (fun _ _ => rfl)) pe_int (fun _ _ => rfl))) (pe_ix (ix_tupK (K := K) rfl) (pe_ix (ix_tupK (K := K) rfl) (pv 0) pe_int (fun _ _ => rfl)) pe_int (fun _ _ => rfl))))
      (pss_cons (ps_setLc (i := 4) (own := [("_law_counter", 5)]) (g := gName 5) rfl sc_law_counters.nd rfl rfl (sw_true rfl rfl rfl (by decide +kernel)) (pi_range3 (by rfl) T.range (pa_cons (pv 2) (pa_cons (pv 3) (pa_cons (pe_ix (ix_tupK (K := K) rfl) (pv 0) pe_int (fun _ _ => rfl)) pa_nil)))) (blkOk_by (N := ["_law_row", "_law_n", "_law_low", "_law_high", "_law_found", "_law_counter"]) (sc := defScope s_law_counters) (by decide +kernel)) (fun _ _ _ _ _ => (pg_name (i := 5) sc_law_counters.nd rfl (.inl rfl))) (fun _ _ _ _ _ => (pts_one (pt_cmpR op_ge (pv 5) pe_int (nomark _)))) (fun _ _ _ _ _ => (pv 5)))
      (pss_one (ps_ret (pe_ifExp (pt_val (pe_ix (ix_tupK (K := K) rfl) (pv 0) pe_int (fun _ _ => rfl))) (pe_revL (pv 4)) (pv 4))))))), ?_⟩
    have b1 := pv_bd (a := l.l0) (c := l.l1) (d := l.l2) a0 (by omega) (by omega) (by omega) d0 n0 n8
    have b2 := pv_bd (a := l.h0) (c := l.h1) (d := l.h2) x0 (by omega) (by omega) (by omega) u0 n0 n8
    have sa := sm_of (x := l.l0) (by omega) (by omega)
    have sx := sm_of (x := l.h0) (by omega) (by omega)
    refine ⟨_, rfl, r, _, _, _, rfl, rfl, SqT.of h1, at0, t1, _, _, _, rfl, rfl, SqT.of h2, at0, _, rfl, _, _, rfl, rfl, .inl sa, ?_⟩
    refine ⟨_, rfl, r, _, _, _, rfl, rfl, SqT.of h1, at0, t1, _, _, _, rfl, rfl, SqT.of h2, at1, _, _, rfl, rfl, ?_⟩
    refine ⟨_, rfl, r, _, _, _, rfl, rfl, SqT.of h1, at0, t1, _, _, _, rfl, rfl, SqT.of h2, at2, _, _, rfl, rfl, ⟨by omega, by omega⟩, ?_⟩
    refine ⟨_, rfl, r, _, _, _, rfl, rfl, SqT.of h1, at1, t2, _, _, _, rfl, rfl, SqT.of h3, at0, _, rfl, _, _, rfl, rfl, .inl sx, ?_⟩
    refine ⟨_, rfl, r, _, _, _, rfl, rfl, SqT.of h1, at1, t2, _, _, _, rfl, rfl, SqT.of h3, at1, _, _, rfl, rfl, ?_⟩
    refine ⟨_, rfl, r, _, _, _, rfl, rfl, SqT.of h1, at1, t2, _, _, _, rfl, rfl, SqT.of h3, at2, _, _, rfl, rfl, ⟨by omega, by omega⟩, ?_⟩
    refine ⟨_, rfl, _, rfl, _, rfl, r, _, _, _, rfl, rfl, SqT.of h1, at2, pv_ l.l0 l.l1 l.l2 n, pv_ l.h0 l.h1 l.h2 n, l.S, _, rfl, rgc_pos S0 (by omega) (by omega) (by omega) (by omega) (by omega), fun D hD => ?_⟩
    refine lc_rangeC (lo := pv_ l.l0 l.l1 l.l2 n) (c := l.S) (fun i Hc => Hc D = some (.lst ((walk (pv_ l.l0 l.l1 l.l2 n) l.S i).map V.int)) ∧ ∀ b o, H b = some o → Hc b = some o) ⟨upd_same, Same.new _ (Same.refl H) hD⟩ ?_ ?_
    · rintro i Hc hi ⟨hc1, hc2⟩
      refine ⟨rfl, ?_⟩
      have hbound : (walk (pv_ l.l0 l.l1 l.l2 n) l.S i).length < sizeLine := by
        have l1 : (walk (pv_ l.l0 l.l1 l.l2 n) l.S i).length ≤ i := by
          unfold walk
          refine Nat.le_trans (List.length_filter_le _ _) ?_
          rw [List.length_map, List.length_range]
          exact Nat.le_refl _
        have l2 : rn_ (pv_ l.l0 l.l1 l.l2 n) (pv_ l.h0 l.h1 l.h2 n) l.S ≤ 200 := by
          rw [rn_pos S0]
          split
          · have := Int.ediv_le_self l.S (show 0 ≤ pv_ l.h0 l.h1 l.h2 n - pv_ l.l0 l.l1 l.l2 n - 1 by omega)
            omega
          · omega
        have l3 : 1000 ≤ sizeLine := by show 1000 ≤ sizeLine; decide
        omega
      refine ⟨_, rfl, _, _, rfl, rfl, _, rfl, ite2 (fun h0 => ?_) (fun h0 => ?_)⟩
      · have h0' : 0 ≤ pv_ l.l0 l.l1 l.l2 n + (i : Int) * l.S := of_decide_eq_true h0
        refine ⟨_, rfl, _, hc1, by rw [List.length_map]; exact hbound, ?_, fun b o e => ?_⟩
        · rw [walk_succ, if_pos h0', List.map_append, upd_same]
          rfl
        · rw [upd_ne (ne_of_none e hD)]
          exact hc2 b o e
      · have h0' : ¬ 0 ≤ pv_ l.l0 l.l1 l.l2 n + (i : Int) * l.S := fun y => h0 (decide_eq_true y)
        refine ⟨?_, hc2⟩
        rw [walk_succ, if_neg h0']
        exact hc1
    · rintro Hc ⟨hc1, hc2⟩
      rw [walk_due S0] at hc1
      have sm : Same H Hc := hc2
      have h1' := sm _ _ h1
      refine ⟨_, rfl, r, _, _, _, rfl, rfl, SqT.of h1', at3, ?_⟩
      cases hdn : l.dn
      · refine ⟨_, rfl, iteF ⟨_, rfl, k D Hc sm hD ?_⟩⟩
        rw [hc1, due_up]
        unfold lpCs
        rw [hdn]
        rfl
      · refine ⟨_, rfl, iteT ⟨_, rfl, D, _, rfl, SqL.of hc1, fun p hp => k p _ (Same.new _ sm hp) (by
          cases hh : H p with
          | none => rfl
          | some o =>
            rw [sm _ _ hh] at hp
            cases hp) ?_⟩⟩
        rw [upd_same, ← List.map_reverse, due_dn]
        unfold lpCs
        rw [hdn]
        rfl
theorem sc_law_turns_far : FnScope ["_law_row", "_law_n", "_law_low", "_law_high", "_law_first"] ["_law_row", "_law_n"] (defScope s_law_turns_far) := ⟨rfl, rfl, rfl, by decide +kernel, rfl, by decide +kernel, by decide +kernel⟩
theorem ok_turnsF {f : Addr} {fd : FuncData} (F : FnP K "_law_turns_far" s_law_turns_far f fd) (T : LwTx K mg) : FnOk P w K mg base CX0 1 f fd ["_law_row", "_law_n"] spTurnsF := by
  refine F.ok sc_law_turns_far (fun vs H Q E h => ?_) (fun cdv A outer s H vs Q E hr h => ?_)
  · obtain ⟨v, l, n, rfl, _⟩ := h
    rfl
  · obtain ⟨v, l, n, rfl, hd, ok, k⟩ := h
    obtain ⟨r, t1, t2, ts, xs, rfl, h1, h2, h3, _, _⟩ := dt_lp hd
    obtain ⟨a0, a1, c0, c1, d0, d1, x0, x1, z0, z1, u0, u1, S0, S1, _⟩ := ok
    refine ⟨_, PSs.nox (pss_cons (ps_set (i := 2) sc_law_turns_far.nd rfl (Or.inl rfl) (pe_op op_fdivN (pe_op op_add (pe_op op_mul (pe_ix (ix_tupK (K := K) rfl) (pe_ix (ix_tupK (K := K) rfl) (pv 0) pe_int (fun _ _ => rfl)) pe_int (fun _ _ => rfl)) (pv 1)) (pe_ix (ix_tupK (K := K) rfl) (pe_ix (ix_tupK (K := K) rfl) (pv 0) pe_int (fun _ _ => rfl)) pe_int (fun _ _ => rfl))) (pe_ix (ix_tupK (K := K) rfl) (pe_ix (ix_tupK (K := K) rfl) (pv 0) pe_int (fun _ _ => rfl)) pe_int (fun _ _ => rfl))))
      (pss_cons (ps_set (i := 3) sc_law_turns_far.nd rfl (Or.inl rfl) (pe_op op_fdivN (pe_op op_add (pe_op op_mul (pe_ix (ix_tupK (K := K) rfl) (pe_ix (ix_tupK (K := K) rfl) (pv 0) pe_int (fun _ _ => rfl)) pe_int (fun _ _ => rfl)) (pv 1)) (pe_ix (ix_tupK (K := K) rfl) (pe_ix (ix_tupK (K := K) rfl) (pv 0) pe_int (fun _ _ => rfl)) pe_int (fun _ _ => rfl))) (pe_ix (ix_tupK (K := K) rfl) (pe_ix (ix_tupK (K := K) rfl) (pv 0) pe_int (fun _ _ => rfl)) pe_int (fun _ _ => rfl))))
      (pss_cons (ps_set (i := 4) sc_law_turns_far.nd rfl (Or.inl rfl) (pe_ifExp (pt_cmpR op_ge (pv 2) pe_int (nomark _)) (pv 2) (pe_op op_modN (pe_callTy call_int1 (by rfl) T.int (by decide +kernel) (pa_cons (pv 2) pa_nil)) (pe_ix (ix_tupK (K := K) rfl) (pv 0) pe_int (fun _ _ => rfl)))))
      (pss_one (ps_ret (pe_callB (call_max2 rfl) (by rfl) T.max (by decide +kernel) (pa_cons pe_int (pa_cons (pe_un un_neg (pe_op op_fdivN (pe_op op_sub (pv 4) (pv 3)) (pe_ix (ix_tupK (K := K) rfl) (pv 0) pe_int (fun _ _ => rfl)))) pa_nil)))))))), ?_⟩
    have sa := sm_of (x := l.l0) (by omega) (by omega)
    have sx := sm_of (x := l.h0) (by omega) (by omega)
    refine ⟨_, rfl, r, _, _, _, rfl, rfl, SqT.of h1, at0, t1, _, _, _, rfl, rfl, SqT.of h2, at0, _, rfl, _, _, rfl, rfl, .inl sa, ?_⟩
    refine ⟨_, rfl, r, _, _, _, rfl, rfl, SqT.of h1, at0, t1, _, _, _, rfl, rfl, SqT.of h2, at1, _, _, rfl, rfl, ?_⟩
    refine ⟨_, rfl, r, _, _, _, rfl, rfl, SqT.of h1, at0, t1, _, _, _, rfl, rfl, SqT.of h2, at2, _, _, rfl, rfl, ⟨by omega, by omega⟩, ?_⟩
    refine ⟨_, rfl, r, _, _, _, rfl, rfl, SqT.of h1, at1, t2, _, _, _, rfl, rfl, SqT.of h3, at0, _, rfl, _, _, rfl, rfl, .inl sx, ?_⟩
    refine ⟨_, rfl, r, _, _, _, rfl, rfl, SqT.of h1, at1, t2, _, _, _, rfl, rfl, SqT.of h3, at1, _, _, rfl, rfl, ?_⟩
    refine ⟨_, rfl, r, _, _, _, rfl, rfl, SqT.of h1, at1, t2, _, _, _, rfl, rfl, SqT.of h3, at2, _, _, rfl, rfl, ⟨by omega, by omega⟩, ?_⟩
    have tail : ∀ x, x = lpL l n → ∀ σ : L2.St, Q (.int (mt_ x (pv_ l.h0 l.h1 l.h2 n) l.S)) H := fun x e _ => by
      rw [e]
      exact k
    refine ⟨_, rfl, _, _, rfl, rfl, _, rfl, ite2 (fun h0 => ?_) (fun h0 => ?_)⟩
    · have k := tail (pv_ l.l0 l.l1 l.l2 n) (by unfold lpL lc_; exact (if_pos (show 0 ≤ pv_ l.l0 l.l1 l.l2 n from of_decide_eq_true h0)).symm) []
      refine ⟨_, rfl, _, rfl, _, rfl, _, _, rfl, rfl, _, rfl, r, _, _, _, rfl, rfl, SqT.of h1, at2, _, _, rfl, rfl, ⟨by omega, by omega⟩, _, rfl, _, _, rfl, ?_⟩
      unfold mt_ at k
      exact k
    · have k := tail ((pv_ l.l0 l.l1 l.l2 n).fmod l.S) (by unfold lpL lc_; exact (if_neg (show ¬ 0 ≤ pv_ l.l0 l.l1 l.l2 n from fun z => h0 (decide_eq_true z))).symm) []
      refine ⟨_, rfl, .inl ⟨_, rfl, _, rfl, r, _, _, _, rfl, rfl, SqT.of h1, at2, _, _, rfl, rfl, by omega, _, rfl, _, rfl, _, _, rfl, rfl, _, rfl, r, _, _, _, rfl, rfl, SqT.of h1, at2, _, _, rfl, rfl, ⟨by omega, by omega⟩, _, rfl, _, _, rfl, ?_⟩⟩
      unfold mt_ at k
      exact k
end
end K26
set_option maxHeartbeats 4000000
namespace K26
open PySem PySem.Spec PyProof.Rows L2 Z
abbrev W3 : Type := Int × Int × Int
def wD (w : W3) : PyData := .tuple [.int w.1, .int w.2.1, .int w.2.2]
def w1 (l : LpM) (n : Int) (j : Nat) (c : Int) (k : Nat) : List W3 := match l.sts[k]? with
  | some s => if stDone s c n = true then [((j : Int), c, (k : Int))] else []
  | none => []
def wS (l : LpM) (n : Int) (j : Nat) (c : Int) (m : Nat) : List W3 := (List.range m).flatMap (w1 l n j c)
def wC (l : LpM) (n : Int) (j : Nat) (m : Nat) : List W3 := ((lpCs l n).take m).flatMap fun c => wS l n j c l.sts.length
def wA (ls : List LpM) (n : Int) (m : Nat) : List W3 := (List.range m).flatMap fun j => match ls[j]? with
  | some l => wC l n j (lpCs l n).length
  | none => []
def works (ls : List LpM) (n : Int) : List W3 := wA ls n ls.length
section
variable {l : LpM} {ls : List LpM} {n c : Int} {j m : Nat}
theorem wS_succ : wS l n j c (m + 1) = wS l n j c m ++ w1 l n j c m := by
  unfold wS
  rw [List.range_succ, List.flatMap_append]
  simp
theorem wC_succ (h : (lpCs l n)[m]? = some c) : wC l n j (m + 1) = wC l n j m ++ wS l n j c l.sts.length := by
  unfold wC
  rw [List.take_add_one, h, List.flatMap_append]
  simp
theorem wA_succ (h : ls[m]? = some l) : wA ls n (m + 1) = wA ls n m ++ wC l n m (lpCs l n).length := by
  unfold wA
  rw [List.range_succ, List.flatMap_append]
  simp [h]
theorem w1_len : (w1 l n j c m).length ≤ 1 := by
  unfold w1
  split
  · split <;> simp
  · simp
theorem wS_len : (wS l n j c m).length ≤ m := by
  induction m with
  | zero => simp [wS]
  | succ m ih =>
    rw [wS_succ, List.length_append]
    have := w1_len (l := l) (n := n) (j := j) (c := c) (m := m)
    omega
theorem wC_len : (wC l n j m).length ≤ m * l.sts.length := by
  induction m with
  | zero => simp [wC]
  | succ m ih =>
    cases h : (lpCs l n)[m]? with
    | some c =>
      rw [wC_succ h, List.length_append, Nat.succ_mul]
      have := wS_len (l := l) (n := n) (j := j) (c := c) (m := l.sts.length)
      omega
    | none =>
      have e : wC l n j (m + 1) = wC l n j m := by
        unfold wC
        rw [List.take_add_one, h]
        simp
      rw [e, Nat.succ_mul]
      omega
theorem lpCs_len (ok : LpOk l) (n0 : 0 ≤ n) (n8 : n ≤ 8) : (lpCs l n).length ≤ 60 ∧ ((lpCs l n).length : Int) = lpN l n ∧ ∀ c ∈ lpCs l n, 0 ≤ c ∧ c ≤ 300 := by
  obtain ⟨a0, a1, c0, c1, d0, d1, x0, x1, z0, z1, u0, u1, S0, S1, _⟩ := ok
  have b1 := pv_bd (a := l.l0) (c := l.l1) (d := l.l2) a0 (by omega) (by omega) (by omega) d0 n0 n8
  have b2 := pv_bd (a := l.h0) (c := l.h1) (d := l.h2) x0 (by omega) (by omega) (by omega) u0 n0 n8
  have l0 : 0 ≤ lpL l n ∧ lpL l n ≤ 50 := by
    unfold lpL lc_
    split
    · omega
    · have := fmod_range (x := pv_ l.l0 l.l1 l.l2 n) (show 0 < l.S by omega)
      omega
  have e : lpN l n = rn_ (lpL l n) (pv_ l.h0 l.h1 l.h2 n) l.S := by
    unfold lpN mt_
    exact turns_eq S0
  have nn : 0 ≤ lpN l n ∧ lpN l n ≤ 60 := by
    rw [e, rn_pos S0]
    split
    · have h1 := Int.ediv_le_self l.S (show 0 ≤ pv_ l.h0 l.h1 l.h2 n - lpL l n - 1 by omega)
      have h2 := Int.ediv_nonneg (show 0 ≤ pv_ l.h0 l.h1 l.h2 n - lpL l n - 1 by omega) (show 0 ≤ l.S by omega)
      omega
    · decide
  have len : (lpCs l n).length = (lpN l n).toNat := by
    unfold lpCs due
    rw [List.length_map, List.length_range]
  refine ⟨by omega, by omega, fun c hc => ?_⟩
  unfold lpCs due at hc
  obtain ⟨j, hj, rfl⟩ := List.mem_map.mp hc
  have hj := List.mem_range.mp hj
  have S3 : l.S = 1 ∨ l.S = 2 ∨ l.S = 3 := by omega
  obtain ⟨y, hy⟩ : ∃ y : Int, y = (if l.dn = true then ((lpN l n).toNat : Int) - 1 - (j : Int) else (j : Int)) := ⟨_, rfl⟩
  rw [← hy]
  have yb : 0 ≤ y ∧ y ≤ 60 := by
    rw [hy]
    split <;> omega
  rcases S3 with z | z | z <;> rw [z] <;> omega
theorem wA_len (ok : ∀ l ∈ ls, LpOk l) (n0 : 0 ≤ n) (n8 : n ≤ 8) : (wA ls n m).length ≤ m * 180 := by
  induction m with
  | zero => simp [wA]
  | succ m ih =>
    cases h : ls[m]? with
    | some l =>
      rw [wA_succ h, List.length_append, Nat.succ_mul]
      have okl := ok l (List.mem_of_getElem? h)
      have h1 := wC_len (l := l) (n := n) (j := m) (m := (lpCs l n).length)
      have h2 := (lpCs_len okl n0 n8).1
      have h3 : l.sts.length ≤ 3 := by
        obtain ⟨_, _, _, _, _, _, _, _, _, _, _, _, _, _, _, _, n3, _⟩ := okl
        exact n3
      have h4 : (lpCs l n).length * l.sts.length ≤ 60 * 3 := Nat.mul_le_mul h2 h3
      omega
    | none =>
      have e : wA ls n (m + 1) = wA ls n m := by
        unfold wA
        rw [List.range_succ, List.flatMap_append]
        simp [h]
      rw [e, Nat.succ_mul]
      omega
end
def spWorks : Sp := fun vs H Q _ => ∃ (r : Addr) (xs : List V) (ls : List LpM) (n : Int), vs = [.ref r, .int n] ∧ H r = some (.lst xs) ∧ DTs H xs (ls.map lpD) ∧ ls.length ≤ 3 ∧ (∀ l ∈ ls, LpOk l) ∧ 0 ≤ n ∧ n ≤ 8 ∧
  ∀ (D : Addr) (H' : Hp) (ws : List V), Same H H' → H D = none → H' D = some (.lst ws) → DTs H' ws ((works ls n).map wD) → Q (.ref D) H'
section
variable {P : Program} {w : World} {K : PySem.W.Frag} {mg : Str → Option Value} {base : Heap}
theorem sc_law_works : FnScope ["_law_rows", "_law_n", "_law_found", "_law_loop", "_law_counter", "_law_k", "_law_guard"] ["_law_rows", "_law_n"] (defScope s_law_works) := ⟨rfl, rfl, rfl, by decide +kernel, rfl, by decide +kernel, by decide +kernel⟩
theorem ok_works {f : Addr} {fd : FuncData} (F : FnP K "_law_works" s_law_works f fd) (T : LwTx K mg) (dCounters : Dn P w K mg base 1 "_law_counters" ["_law_row", "_law_n"] spCounters) (dGuardH : Dn P w K mg base 2 "_law_guard_holds" ["_law_guard", "_law_i", "_law_n"] spGuardH) :
    FnOk P w K mg base CX0 3 f fd ["_law_rows", "_law_n"] spWorks := by
  refine F.ok sc_law_works (fun vs H Q E h => ?_) (fun cdv A outer s H vs Q E hr h => ?_)
  · obtain ⟨r, xs, ls, n, rfl, _⟩ := h
    rfl
  · obtain ⟨r, xs, ls, n, rfl, hr0, ds, l3, ok, n0, n8, k⟩ := h
    refine ⟨_, PSs.nox (pss_cons (ps_set (i := 2) sc_law_works.nd rfl (Or.inl rfl) (pe_lst pa_nil))
      (pss_cons (ps_for PassesOwn.never rfl (pi_range1 (by rfl) T.range (pa_cons (pe_callB call_len_seq (by rfl) T.len PySem.boot_len (pa_cons (pv 0) pa_nil)) pa_nil)) (pg_name (i := 3) sc_law_works.nd rfl (.inl rfl)) (pss_one (ps_for PassesOwn.never rfl (pi_list (pe_dn dCounters hr (pa_cons (pe_ix ix_list (pv 0) (pv 3) (fun _ _ => rfl)) (pa_cons (pv 1) pa_nil)))) (pg_name (i := 4) sc_law_works.nd rfl (.inr rfl)) (pss_one (ps_for PassesOwn.never rfl (pi_range1 (by rfl) T.range (pa_cons (pe_callB call_len_seq (by rfl) T.len PySem.boot_len (pa_cons (pe_ix (ix_tupK (K := K) rfl) (pe_ix ix_list (pv 0) (pv 3) (fun _ _ => rfl)) pe_int (fun _ _ => rfl)) pa_nil)) pa_nil)) (pg_name (i := 5) sc_law_works.nd rfl (.inl rfl)) (pss_one (ps_if (pt_val (pe_callB (cr_all rfl) (by rfl) T.all (by decide +kernel) (pa_cons (pe_lc (own := [("_law_guard", 6)]) (g := gName 6) (tt := tYes) rfl sc_law_works.nd (pi_tup (pe_ix (ix_tupK (K := K) rfl) (pe_ix (ix_tupK (K := K) rfl) (pe_ix (ix_tupK (K := K) rfl) (pe_ix ix_list (pv 0) (pv 3) (fun _ _ => rfl)) pe_int (fun _ _ => rfl)) (pv 5) (fun _ _ => rfl)) pe_int (fun _ _ => rfl))) (blkOk_by (N := ["_law_rows", "_law_n", "_law_found", "_law_loop", "_law_counter", "_law_k", "_law_guard"]) (sc := defScope s_law_works) (by decide +kernel)) (fun _ _ _ _ _ => (pg_name (i := 6) sc_law_works.nd rfl (.inl rfl))) (fun _ _ _ _ _ => pts_nil) (fun _ _ _ _ _ => (pe_dn dGuardH hr (pa_cons (pv 6) (pa_cons (pv 4) (pa_cons (pv 1) pa_nil)))))) pa_nil))) (pss_one (ps_expr (pe_bm PySem.F.plainAttrs_list PySem.F.slot_list_append PySem.F.type_list_append mt_append (pv 2) (pa_cons (pe_tup (pa_cons (pv 3) (pa_cons (pv 4) (pa_cons (pv 5) pa_nil)))) pa_nil)))) pss_nil)))))))
      (pss_one (ps_ret (pv 2))))), ?_⟩
    refine ⟨(by decide), fun D hD => ?_⟩
    have nrD : r ≠ D := ne_of_none hr0 hD
    refine normG (σ' := [some (.ref r), some (.int n), some (.ref D), none, none, none, none]) rfl ?_
    have lxs : xs.length = ls.length := by rw [ds.len, List.length_map]
    have sD := Same.new (.lst []) (Same.refl H) hD
    refine ⟨_, rfl, r, _, rfl, .inl (SqL.of (sD _ _ hr0)), (xs.length : Int), rfl, by omega, by omega, ?_⟩
    rw [Int.toNat_natCast]
    refine for_range (lo := 0) (n := xs.length) (fun i σ H' => ∃ (v3 v4 v5 v6 : Option V) (ws : List V), σ = [some (.ref r), some (.int n), some (.ref D), v3, v4, v5, v6] ∧ H' D = some (.lst ws) ∧ DTs H' ws ((wA ls n i).map wD) ∧ Same H H') ⟨_, _, _, _, [], rfl, upd_same, .nil, sD⟩ ?_ ?_
    · rintro i σ H1 hi ⟨v3, v4, v5, v6, ws, rfl, eD, dw, s1⟩
      obtain ⟨l, hl⟩ : ∃ l, ls[i]? = some l := ⟨_, List.getElem?_eq_getElem (by omega)⟩
      have okl := ok l (List.mem_of_getElem? hl)
      obtain ⟨v, hv, dv⟩ := DTs.get i _ ds (by rw [List.getElem?_map, hl]; rfl)
      refine normG (σ' := [some (.ref r), some (.int n), some (.ref D), some (.int (0 + (i : Int))), v4, v5, v6]) rfl ?_
      refine ⟨_, rfl, _, rfl, r, _, _, _, rfl, rfl, SqL.of (s1 _ _ hr0), (by rw [Int.zero_add]; exact atI_nat hv), _, rfl, v, l, n, rfl, dv.same s1, okl, n0, n8, fun L H2 s2 hL eL => ?_⟩
      have nLD : L ≠ D := fun z => by
        rw [z, eD] at hL
        cases hL
      have eD2 := s2 _ _ eD
      refine ⟨L, rfl, ⟨_, SqL.of eL⟩, ?_⟩
      refine for_list (K := K) (xs := (lpCs l n).map V.int) (fun j σ H' => ∃ (v4 v5 v6 : Option V) (ws : List V), σ = [some (.ref r), some (.int n), some (.ref D), some (.int (0 + (i : Int))), v4, v5, v6] ∧ H' D = some (.lst ws) ∧ DTs H' ws ((wA ls n i ++ wC l n i j).map wD) ∧ Same H H' ∧ H' L = some (.lst ((lpCs l n).map V.int)))
        ⟨_, _, _, ws, rfl, eD2, by
          have e : wA ls n i ++ wC l n i 0 = wA ls n i := by simp [wC]
          rw [e]
          exact dw.to (.of s2), s1.trans s2, eL⟩ (fun j σ' H' _ z => SqL.of z.choose_spec.choose_spec.choose_spec.choose_spec.2.2.2.2) ?_ ?_
      · rintro j cv σ H3 hcv ⟨v4, v5, v6, ws, rfl, eD3, dw3, s3, eL3⟩
        rw [List.getElem?_map] at hcv
        obtain ⟨c, hc, rfl⟩ := Option.map_eq_some_iff.mp hcv
        refine normG (σ' := [some (.ref r), some (.int n), some (.ref D), some (.int (0 + (i : Int))), some (.int c), v5, v6]) rfl ?_
        have dv3 := dv.same s3
        obtain ⟨t, q1, q2, ts, ys, rfl, ht, _, _, hts, dst⟩ := dt_lp dv3
        have lys : ys.length = l.sts.length := by rw [dst.len, List.length_map]
        have atr : atI xs (0 + (i : Int)) = some (.ref t) := by rw [Int.zero_add]; exact atI_nat hv
        refine ⟨_, rfl, _, rfl, r, _, _, _, rfl, rfl, SqL.of (s3 _ _ hr0), atr, t, _, _, _, rfl, rfl, SqT.of ht, at4, ts, _, rfl, .inr (SqT.of hts), (ys.length : Int), rfl, by omega, by
          have := okl
          obtain ⟨_, _, _, _, _, _, _, _, _, _, _, _, _, _, _, _, n3, _⟩ := this
          omega, ?_⟩
        rw [Int.toNat_natCast]
        refine for_range (lo := 0) (n := ys.length) (fun q σ H' => ∃ (v5 v6 : Option V) (ws : List V), σ = [some (.ref r), some (.int n), some (.ref D), some (.int (0 + (i : Int))), some (.int c), v5, v6] ∧ H' D = some (.lst ws) ∧ DTs H' ws (((wA ls n i ++ wC l n i j) ++ wS l n i c q).map wD) ∧ Same H H' ∧ H' L = some (.lst ((lpCs l n).map V.int)) ∧ TSame H3 H')
          ⟨_, _, ws, rfl, eD3, by
            have e : (wA ls n i ++ wC l n i j) ++ wS l n i c 0 = wA ls n i ++ wC l n i j := by simp [wS]
            rw [e]
            exact dw3, s3, eL3, .refl _⟩ ?_ ?_
        · rintro q σ H4 hq ⟨v5, v6, ws, rfl, eD4, dw4, s4, eL4, ts4⟩
          refine normG (σ' := [some (.ref r), some (.int n), some (.ref D), some (.int (0 + (i : Int))), some (.int c), some (.int (0 + (q : Int))), v6]) rfl ?_
          obtain ⟨s, hs⟩ : ∃ s, l.sts[q]? = some s := ⟨_, List.getElem?_eq_getElem (by omega)⟩
          obtain ⟨u, hu, du⟩ := DTs.get q _ dst (by rw [List.getElem?_map, hs]; rfl)
          obtain ⟨t6, q6, tr6, tg6, x6, y6, rfl, h6, _, _, _, hg6, dg6⟩ := dt_st (du.to ts4)
          have atu : atI ys (0 + (q : Int)) = some (.ref t6) := by rw [Int.zero_add]; exact atI_nat hu
          have oks : StOk s := by
            obtain ⟨_, _, _, _, _, _, _, _, _, _, _, _, _, _, _, _, _, okS⟩ := okl
            exact okS s (List.mem_of_getElem? hs)
          have ht4 := ts4 _ _ ht
          have hts4 := ts4 _ _ hts
          refine ⟨_, rfl, _, rfl, r, _, _, _, rfl, rfl, SqL.of (s4 _ _ hr0), atr, t, _, _, _, rfl, rfl, SqT.of ht4, at4, _, rfl, ts, _, _, _, rfl, rfl, SqT.of hts4, atu, t6, _, _, _, rfl, rfl, SqT.of h6, at4, tg6, rfl, ⟨_, SqT.of hg6⟩, fun E1 hE1 => ?_⟩
          refine lc_tup (K := K) (xs := y6) (fun b Hc => Hc E1 = some (.lst (((s.gds.take b).map fun g => gdV g c n).map V.bl)) ∧ Same H4 Hc) ⟨upd_same, Same.new _ (Same.refl H4) hE1⟩ (fun b Hc _ z => SqT.of (z.2 _ _ hg6)) ?_ ?_
          · rintro b gv Hc hgv ⟨eE, sc⟩
            obtain ⟨g, hg, dgv⟩ := (dg6.to (.of sc)).map' hgv
            refine ⟨rfl, yes_of ?_⟩
            refine ⟨_, rfl, _, rfl, _, rfl, gv, g, c, n, rfl, dgv, oks.2.2.2.2.2.2.2 g (List.mem_of_getElem? hg), ?_⟩
            refine ⟨_, eE, sz1l _ (by
              rw [List.length_map, List.length_map, List.length_take]
              have := oks.2.2.2.2.2.1
              omega), ?_, fun b' o e => ?_⟩
            · rw [upd_same, all_take_succ hg, List.map_append]
              rfl
            · rw [upd_ne (ne_of_none e hE1)]
              exact sc b' o e
          · rintro Hc ⟨eE, sc⟩
            have ly : y6.length = s.gds.length := by rw [dg6.len, List.length_map]
            rw [ly, List.take_length] at eE
            have eDc := sc _ _ eD4
            refine ⟨E1, _, rfl, SqL.of eE, _, rfl, ?_⟩
            rw [all_map]
            have e1 : w1 l n i c q = if stDone s c n = true then [((i : Int), c, (q : Int))] else [] := by
              unfold w1
              rw [hs]
            by_cases hd : stDone s c n = true
            · refine if_yes hd ?_
              refine ⟨_, rfl, .inl ⟨rfl, _, SqL.of eDc⟩, _, rfl, _, rfl, _, rfl, sz3, fun TT hTT => ?_⟩
              have sT := Same.new (.tup [.int (0 + (i : Int)), .int c, .int (0 + (q : Int))]) (Same.refl Hc) hTT
              have eDT := sT _ _ eDc
              have bnd : ws.length < sizeLine := sz1l _ (by
                rw [dw4.len, List.length_map, List.length_append, List.length_append]
                have h1 := wA_len (m := i) ok n0 n8
                have h2 := wC_len (l := l) (n := n) (j := i) (m := j)
                have h3 := wS_len (l := l) (n := n) (j := i) (c := c) (m := q)
                have h4 : j < (lpCs l n).length := (List.getElem?_eq_some_iff.mp hc).1
                have h5 := (lpCs_len okl n0 n8).1
                have n3 : l.sts.length ≤ 3 := by
                  have := okl
                  obtain ⟨_, _, _, _, _, _, _, _, _, _, _, _, _, _, _, _, n3, _⟩ := this
                  exact n3
                have h6 : j * l.sts.length ≤ 60 * 3 := Nat.mul_le_mul (by omega) n3
                have h7 : i * 180 ≤ 3 * 180 := Nat.mul_le_mul_right _ (by omega)
                omega)
              refine ⟨D, _, _, rfl, rfl, eDT, bnd, ?_⟩
              have tsU : TSame (upd Hc TT (.tup [.int (0 + (i : Int)), .int c, .int (0 + (q : Int))])) (upd (upd Hc TT (.tup [.int (0 + (i : Int)), .int c, .int (0 + (q : Int))])) D (.lst (ws ++ [.ref TT]))) := .updL eDT
              refine ⟨_, _, ws ++ [.ref TT], rfl, upd_same, ?_, fun b o e => ?_, ?_, ts4.trans ((TSame.of (sc.trans sT)).trans tsU)⟩
              · rw [wS_succ, e1, if_pos hd, ← List.append_assoc]
                refine ((dw4.to (.of (sc.trans sT))).to tsU).snoc ?_
                rw [show wD ((i : Int), c, (q : Int)) = .tuple [.int (0 + (i : Int)), .int c, .int (0 + (q : Int))] by unfold wD; rw [Int.zero_add, Int.zero_add]]
                exact dt3 (tsU _ _ upd_same)
              · rw [upd_ne (ne_of_none e hD)]
                exact sT _ _ (sc _ _ (s4 b o e))
              · rw [upd_ne nLD]
                exact sT _ _ (sc _ _ eL4)
            · refine if_no (Bool.eq_false_iff.mpr hd) ?_
              refine ⟨_, _, ws, rfl, eDc, ?_, s4.trans sc, sc _ _ eL4, ts4.trans (.of sc)⟩
              rw [wS_succ, e1, if_neg hd, List.append_nil]
              exact dw4.to (.of sc)
        · rintro σ H4 ⟨v5, v6, ws, rfl, eD4, dw4, s4, eL4, ts4⟩
          refine ⟨_, _, _, ws, rfl, eD4, ?_, s4, eL4⟩
          rw [wC_succ hc, ← List.append_assoc, ← lys]
          exact dw4
      · rintro σ H3 ⟨v4, v5, v6, ws, rfl, eD3, dw3, s3, eL3⟩
        refine ⟨_, _, _, _, ws, rfl, eD3, ?_, s3⟩
        rw [List.length_map] at dw3
        rw [wA_succ hl]
        exact dw3
    · rintro σ H1 ⟨v3, v4, v5, v6, ws, rfl, eD, dw, s1⟩
      rw [lxs] at dw
      exact ⟨_, rfl, k D H1 ws s1 hD eD dw⟩
end
end K26
set_option maxHeartbeats 4000000
namespace K26
open PySem PySem.Spec PyProof.Rows L2 Z
theorem lpN_nn {l : LpM} {n : Int} : 0 ≤ lpN l n := by
  unfold lpN mt_
  split <;> omega
theorem lpCs_eq {l : LpM} {n : Int} : ((lpCs l n).length : Int) = lpN l n := by
  have := lpN_nn (l := l) (n := n)
  unfold lpCs due
  rw [List.length_map, List.length_range]
  omega
/-- at most so many turns in each loop -/
def Few (ls : List LpM) (n : Int) : Prop := ∀ l ∈ ls, lpN l n ≤ 20000
theorem wA_fewB (B : Nat) {ls : List LpM} {n : Int} {m : Nat} (h4 : ∀ l ∈ ls, (lpCs l n).length * l.sts.length ≤ B) : (wA ls n m).length ≤ m * B := by
  induction m with
  | zero => simp [wA]
  | succ m ih =>
    cases h : ls[m]? with
    | some l =>
      rw [wA_succ h, List.length_append, Nat.succ_mul]
      exact Nat.add_le_add ih (Nat.le_trans wC_len (h4 l (List.mem_of_getElem? h)))
    | none =>
      have e : wA ls n (m + 1) = wA ls n m := by
        unfold wA
        rw [List.range_succ, List.flatMap_append]
        simp [h]
      rw [e, Nat.succ_mul]
      exact Nat.le_trans ih (Nat.le_add_right _ _)
theorem few_B {ls : List LpM} {n : Int} (ok : ∀ l ∈ ls, LpOk l) (nb : Few ls n) (l : LpM) (h : l ∈ ls) : (lpCs l n).length * l.sts.length ≤ 20000 * 3 := by
  have h2 := nb l h
  have h5 := lpCs_eq (l := l) (n := n)
  have h3 : l.sts.length ≤ 3 := by
    obtain ⟨_, _, _, _, _, _, _, _, _, _, _, _, _, _, _, _, n3, _⟩ := ok l h
    exact n3
  exact Nat.mul_le_mul (by omega) h3
theorem wA_few {ls : List LpM} {n : Int} (ok : ∀ l ∈ ls, LpOk l) (nb : Few ls n) {m : Nat} : (wA ls n m).length ≤ m * (20000 * 3) := wA_fewB _ (few_B ok nb)
theorem sz1m (n : Nat) (h : n < 1000000) : n < sizeLine := Nat.lt_of_lt_of_le h (by show 1000000 ≤ sizeLine; decide)
def spWorksOf (K : PySem.W.Frag) : Sp := fun vs H Q _ => ∃ (v : V) (ls : List LpM) (n : Int), vs = [v, .int n] ∧ PrOb K H v ls ∧ ls.length ≤ 3 ∧ (∀ l ∈ ls, LpOk l) ∧ Few ls n ∧
  ∀ (D : Addr) (H' : Hp) (ws : List V), Same H H' → H D = none → H' D = some (.lst ws) → DTs H' ws ((works ls n).map wD) → Q (.ref D) H'
theorem prf_l (l a d : Addr) : (prf l a d).lookup ("loops" : Str) = some (.ref l) := by
  unfold prf prf2
  rw [lookup_putF, if_neg (by decide +kernel), lookup_putF, if_neg (by decide +kernel), lookup_putF, if_pos rfl]
theorem no_done (x : Str) (q : Addr) (k : Int) (r g : Addr) : (stf x q k r g).lookup ("is_done" : Str) = none := by
  unfold stf
  rw [lookup_putF, if_neg (by decide +kernel), lookup_putF, if_neg (by decide +kernel), lookup_putF, if_neg (by decide +kernel), lookup_putF, if_neg (by decide +kernel), lookup_putF, if_neg (by decide +kernel)]
  rfl
/-- the loops' methods, where none raises -/
structure LM (P : Program) (w : World) (K : PySem.W.Frag) (mg : Str → Option Value) (base : Heap) : Prop where
  mt : ∃ fd, FnOk P w K mg base CX0 4 (He.ma K (CL K) "many_turns") fd ["self", "n"] (spMT K) ∧ Binds K fd ["self", "n"] [] ∧ Meth K (CL K) "many_turns" (He.ma K (CL K) "many_turns")
  co : ∃ fd, FnOk P w K mg base CX0 4 (He.ma K (CL K) "counter_of") fd ["self", "n", "turn"] (spCO K) ∧ Binds K fd ["self", "n", "turn"] [] ∧ Meth K (CL K) "counter_of" (He.ma K (CL K) "counter_of")
  dn : ∃ fd, FnOk P w K mg base CX0 3 (He.ma K (CSt K) "is_done") fd ["self", "i", "n"] (spDone K) ∧ Binds K fd ["self", "i", "n"] [] ∧ Meth K (CSt K) "is_done" (He.ma K (CSt K) "is_done")
section
variable {P : Program} {w : World} {K : PySem.W.Frag} {mg : Str → Option Value} {base : Heap}
theorem sc_works_of : FnScope ["program", "n", "told", "place", "loop", "turn", "counter", "number", "statement"] ["program", "n"] (defScope s_works_of) := ⟨rfl, rfl, rfl, by decide +kernel, rfl, by decide +kernel, by decide +kernel⟩
theorem ok_worksOf {f : Addr} {fd : FuncData} (F : FnP K "works_of" s_works_of f fd) (T : LwTx K mg) (L : LM P w K mg base) : FnOk P w K mg base CX0 5 f fd ["program", "n"] (spWorksOf K) := by
  refine F.ok sc_works_of (fun vs H Q E h => ?_) (fun cdv A outer s H vs Q E hr h => ?_)
  · obtain ⟨v, ls, n, rfl, _⟩ := h
    rfl
  · obtain ⟨v, ls, n, rfl, ⟨p, xs, ys, rfl, ⟨dx, lt, at_, dk, hp, hlt, hat⟩, fa⟩, l3, ok, nb, k⟩ := h
    obtain ⟨fdm, Fm, hbm, cm⟩ := L.mt
    obtain ⟨fdo, Fo, hbo, co⟩ := L.co
    obtain ⟨fdd, Fd, hbd, cd⟩ := L.dn
    refine ⟨_, PSs.nox (pss_cons (ps_set (i := 2) sc_works_of.nd rfl (Or.inl rfl) (pe_lst pa_nil))
      (pss_cons (ps_for PassesOwn.never rfl (pi_enumT (by rfl) T.enumerate (pa_cons (pe_fld (pv 0) rfl) pa_nil)) (pg_tup (by rfl) (pgs_cons (pg_name (i := 3) sc_works_of.nd rfl (.inl rfl)) (pgs_cons (pg_name (i := 4) sc_works_of.nd rfl (.inl rfl)) pgs_nil))) (pss_one (ps_for PassesOwn.never rfl (pi_range1 (by rfl) T.range (pa_cons (pe_meth (pv 4) T.clL cm Fm (hr.mono (by decide)) hbm .nil pass0 (pa_cons (pv 1) pa_nil)) pa_nil)) (pg_name (i := 5) sc_works_of.nd rfl (.inl rfl)) (pss_cons (ps_set (i := 6) sc_works_of.nd rfl (Or.inl rfl) (pe_meth (pv 4) T.clL co Fo (hr.mono (by decide)) hbo .nil pass0 (pa_cons (pv 1) (pa_cons (pv 5) pa_nil))))
      (pss_one (ps_for PassesOwn.never rfl (pi_enumT (by rfl) T.enumerate (pa_cons (pe_fld (pv 4) rfl) pa_nil)) (pg_tup (by rfl) (pgs_cons (pg_name (i := 7) sc_works_of.nd rfl (.inl rfl)) (pgs_cons (pg_name (i := 8) sc_works_of.nd rfl (.inl rfl)) pgs_nil))) (pss_one (ps_if (pt_val (pe_meth (pv 8) T.clM cd Fd (hr.mono (by decide)) hbd .nil pass0 (pa_cons (pv 6) (pa_cons (pv 1) pa_nil)))) (pss_one (ps_expr (pe_bm PySem.F.plainAttrs_list PySem.F.slot_list_append PySem.F.type_list_append mt_append (pv 2) (pa_cons (pe_tup (pa_cons (pv 3) (pa_cons (pv 6) (pa_cons (pv 7) pa_nil)))) pa_nil)))) pss_nil))))))))
      (pss_one (ps_ret (pv 2))))), ?_⟩
    refine ⟨(by decide), fun D hD => ?_⟩
    have sD := Same.new (.lst []) (Same.refl H) hD
    refine normG (σ' := [some (.ref p), some (.int n), some (.ref D), none, none, none, none, none, none]) rfl ?_
    refine ⟨_, rfl, p, _, dx, _, _, rfl, sD _ _ hp, T.clP, T.nPL, prf_l _ _ _, lt, xs, rfl, SqT.same hlt sD, ?_⟩
    refine for_it (walk_enumT (K := K) (a := lt) (xs := xs)) (fun i σ H' => ∃ (v3 v4 v5 v6 v7 v8 : Option V) (ws : List V), σ = [some (.ref p), some (.int n), some (.ref D), v3, v4, v5, v6, v7, v8] ∧ H' D = some (.lst ws) ∧ DTs H' ws ((wA ls n i).map wD) ∧ Same H H') ⟨_, _, _, _, _, _, [], rfl, upd_same, .nil, sD⟩ (fun i σ H' _ z => by
      obtain ⟨_, _, _, _, _, _, _, _, _, _, s⟩ := z
      exact SqT.same hlt s) ?_ ?_
    · rintro i tv σ H1 H2 hi ⟨v3, v4, v5, v6, v7, v8, ws, rfl, eD, dw, s1⟩ ⟨U, x, y, rfl, hU, rfl, ex, ey⟩
      cases ex
      obtain ⟨l, hl, ob⟩ := fa.at ey
      have okl := ok l (List.mem_of_getElem? hl)
      have lb := lpCs_eq (l := l) (n := n)
      have lnb := nb l (List.mem_of_getElem? hl)
      have lnn := lpN_nn (l := l) (n := n)
      have n3 : l.sts.length ≤ 3 := by
        have := okl
        obtain ⟨_, _, _, _, _, _, _, _, _, _, _, _, _, _, _, _, n3, _⟩ := this
        exact n3
      have nUD : U ≠ D := (ne_of_none eD hU).symm
      have s2 : Same H1 (upd H1 U (.tup [.int (i : Int), y])) := Same.new _ (Same.refl H1) hU
      refine ⟨U, _, rfl, SqT.of upd_same, rfl, _, _, rfl, ?_⟩
      have eD2 := s2 _ _ eD
      obtain ⟨H2, eH2⟩ : ∃ L, L = upd H1 U (.tup [.int (i : Int), y]) := ⟨_, rfl⟩
      rw [← eH2] at s2 eD2 ⊢
      have ob2 := ob.same (s1.trans s2)
      refine normG (σ' := [some (.ref p), some (.int n), some (.ref D), some (.int (i : Int)), v4, v5, v6, v7, v8]) rfl ?_
      refine ⟨_, _, rfl, ?_⟩
      refine normG (σ' := [some (.ref p), some (.int n), some (.ref D), some (.int (i : Int)), some y, v5, v6, v7, v8]) rfl ?_
      refine ⟨rfl, ?_⟩
      obtain ⟨q, t, u, ss, rfl, lat, f1, f2, fs⟩ := id ob2
      obtain ⟨dq, lo, hi', st, hq, hlo, hhi, hst⟩ := id lat
      refine ⟨_, rfl, q, dq, _, rfl, hq, no_mt _ _ _ _ _, _, rfl, _, l, n, rfl, ob2, okl, lpN l n, rfl, by omega, by omega, ?_⟩
      obtain ⟨N, hN⟩ : ∃ N : Nat, N = (lpCs l n).length := ⟨_, rfl⟩
      rw [show (lpN l n).toNat = N by omega]
      refine for_range (lo := 0) (n := N) (fun j σ H' => ∃ (v5 v6 v7 v8 : Option V) (ws : List V), σ = [some (.ref p), some (.int n), some (.ref D), some (.int (i : Int)), some (.ref q), v5, v6, v7, v8] ∧ H' D = some (.lst ws) ∧ DTs H' ws ((wA ls n i ++ wC l n i j).map wD) ∧ Same H H' ∧ MS H2 H')
        ⟨_, _, _, _, ws, rfl, eD2, by
          have e : wA ls n i ++ wC l n i 0 = wA ls n i := by simp [wC]
          rw [e]
          exact dw.to (.of s2), s1.trans s2, .refl _⟩ ?_ ?_
      · rintro j σ H3 hj ⟨v5, v6, v7, v8, ws, rfl, eD3, dw3, s3, m3⟩
        refine normG (σ' := [some (.ref p), some (.int n), some (.ref D), some (.int (i : Int)), some (.ref q), some (.int (0 + (j : Int))), v6, v7, v8]) rfl ?_
        have ob3 := ob2.ms m3
        have hq3 := m3 _ _ hq rfl
        refine ⟨_, rfl, q, dq, _, rfl, hq3, no_co _ _ _ _ _, _, rfl, _, rfl, _, l, n, 0 + (j : Int), rfl, ob3, okl, by omega, by omega, ?_⟩
        obtain ⟨c, hc⟩ : ∃ c, (lpCs l n)[j]? = some c := ⟨_, List.getElem?_eq_getElem (by omega)⟩
        have ec : lpL l n + (if l.dn = true then lpN l n - 1 - (0 + (j : Int)) else 0 + (j : Int)) * l.S = c := by
          have e : (lpCs l n)[j]? = some (lpL l n + (if l.dn = true then ((lpN l n).toNat : Int) - 1 - (j : Int) else (j : Int)) * l.S) := by
            unfold lpCs due
            rw [List.getElem?_map, List.getElem?_range (by omega)]
            rfl
          rw [hc] at e
          rw [Option.some.inj e, Int.zero_add, show ((lpN l n).toNat : Int) = lpN l n by omega]
        rw [ec]
        refine normG (σ' := [some (.ref p), some (.int n), some (.ref D), some (.int (i : Int)), some (.ref q), some (.int (0 + (j : Int))), some (.int c), v7, v8]) rfl ?_
        have hst3 : SqT K H3 st ss := m3.sqT hst
        refine ⟨_, rfl, q, _, dq, _, _, rfl, hq3, T.clL, T.nSt, lp_tt _ _ _ _ _, st, ss, rfl, hst3, ?_⟩
        refine for_it (walk_enumT (K := K) (a := st) (xs := ss)) (fun g σ H' => ∃ (v7 v8 : Option V) (ws : List V), σ = [some (.ref p), some (.int n), some (.ref D), some (.int (i : Int)), some (.ref q), some (.int (0 + (j : Int))), some (.int c), v7, v8] ∧ H' D = some (.lst ws) ∧ DTs H' ws (((wA ls n i ++ wC l n i j) ++ wS l n i c g).map wD) ∧ Same H H' ∧ MS H2 H')
          ⟨_, _, ws, rfl, eD3, by
            have e : (wA ls n i ++ wC l n i j) ++ wS l n i c 0 = wA ls n i ++ wC l n i j := by simp [wS]
            rw [e]
            exact dw3, s3, m3⟩ (fun g σ H' _ z => by
          obtain ⟨_, _, _, _, _, _, _, m⟩ := z
          exact m.sqT hst) ?_ ?_
        · rintro g tv2 σ H4 H5 hg ⟨v7, v8, ws, rfl, eD4, dw4, s4, m4⟩ ⟨U2, x2, y2, rfl, hU2, rfl, ex2, ey2⟩
          cases ex2
          obtain ⟨s, hs, obs⟩ := fs.at ey2
          have oks : StOk s := by
            have := okl
            obtain ⟨_, _, _, _, _, _, _, _, _, _, _, _, _, _, _, _, _, okS⟩ := this
            exact okS s (List.mem_of_getElem? hs)
          have s5 : Same H4 (upd H4 U2 (.tup [.int (g : Int), y2])) := Same.new _ (Same.refl H4) hU2
          refine ⟨U2, _, rfl, SqT.of upd_same, rfl, _, _, rfl, ?_⟩
          have eD5 := s5 _ _ eD4
          obtain ⟨H5, eH5⟩ : ∃ L, L = upd H4 U2 (.tup [.int (g : Int), y2]) := ⟨_, rfl⟩
          rw [← eH5] at s5 eD5 ⊢
          have m5 : MS H2 H5 := m4.trans (.of s5)
          have obs5 := obs.ms m5
          refine normG (σ' := [some (.ref p), some (.int n), some (.ref D), some (.int (i : Int)), some (.ref q), some (.int (0 + (j : Int))), some (.int c), some (.int (g : Int)), v8]) rfl ?_
          refine ⟨_, _, rfl, ?_⟩
          refine normG (σ' := [some (.ref p), some (.int n), some (.ref D), some (.int (i : Int)), some (.ref q), some (.int (0 + (j : Int))), some (.int c), some (.int (g : Int)), some y2]) rfl ?_
          refine ⟨rfl, ?_⟩
          obtain ⟨w2, rs, cs, rfl, ⟨d2, q2, r2, g2', hw2, hw3, hw4, hw5⟩, fr, fc⟩ := id obs5
          refine ⟨_, rfl, w2, d2, _, rfl, hw2, no_done _ _ _ _ _, _, rfl, _, rfl, _, s, c, n, rfl, obs5, oks, fun H6 s6 => ?_⟩
          refine ⟨_, rfl, ?_⟩
          have eD6 := s6 _ _ eD5
          have e1 : w1 l n i c g = if stDone s c n = true then [((i : Int), c, (g : Int))] else [] := by
            unfold w1
            rw [hs]
          by_cases hd : stDone s c n = true
          · refine if_yes hd ?_
            refine ⟨_, rfl, .inl ⟨rfl, _, SqL.of eD6⟩, _, rfl, _, rfl, _, rfl, sz3, fun TT hTT => ?_⟩
            have sT := Same.new (.tup [.int (i : Int), .int c, .int (g : Int)]) (Same.refl H6) hTT
            have eDT := sT _ _ eD6
            have bnd : ws.length < sizeLine := sz1m _ (by
              rw [dw4.len, List.length_map, List.length_append, List.length_append]
              have h1 := wA_few (m := i) ok nb
              have h2 := wC_len (l := l) (n := n) (j := i) (m := j)
              have h3 := wS_len (l := l) (n := n) (j := i) (c := c) (m := g)
              have h4 : g < l.sts.length := (List.getElem?_eq_some_iff.mp hs).1
              have h6 : j * l.sts.length ≤ 20000 * 3 := Nat.mul_le_mul (by omega) n3
              have h7 : i * 60000 ≤ 3 * 60000 := Nat.mul_le_mul_right _ (by
                have := fa.1
                omega)
              omega)
            refine ⟨D, _, _, rfl, rfl, eDT, bnd, ?_⟩
            have msU : MS (upd H6 TT (.tup [.int (i : Int), .int c, .int (g : Int)])) (upd (upd H6 TT (.tup [.int (i : Int), .int c, .int (g : Int)])) D (.lst (ws ++ [.ref TT]))) := .updL eDT
            have s46 := s5.trans (s6.trans sT)
            refine ⟨_, _, ws ++ [.ref TT], rfl, upd_same, ?_, fun b o e => ?_, (m4.trans (.of s46)).trans msU⟩
            · rw [wS_succ, e1, if_pos hd, ← List.append_assoc]
              exact ((dw4.to (.of s46)).to msU.t).snoc (dt3 (msU.t _ _ upd_same))
            · rw [upd_ne (ne_of_none e hD)]
              exact s46 _ _ (s4 b o e)
          · refine if_no (Bool.eq_false_iff.mpr hd) ?_
            refine ⟨_, _, ws, rfl, eD6, ?_, s4.trans (s5.trans s6), m5.trans (.of s6)⟩
            rw [wS_succ, e1, if_neg hd, List.append_nil]
            exact dw4.to (.of (s5.trans s6))
        · rintro σ H4 ⟨v7, v8, ws, rfl, eD4, dw4, s4, m4⟩
          refine ⟨_, _, _, _, ws, rfl, eD4, ?_, s4, m4⟩
          rw [wC_succ hc, ← List.append_assoc, ← fs.1]
          exact dw4
      · rintro σ H3 ⟨v5, v6, v7, v8, ws, rfl, eD3, dw3, s3, m3⟩
        refine ⟨_, _, _, _, _, _, ws, rfl, eD3, ?_, s3⟩
        rw [wA_succ hl, ← hN]
        exact dw3
    · rintro σ H1 ⟨v3, v4, v5, v6, v7, v8, ws, rfl, eD, dw, s1⟩
      rw [fa.1] at dw
      exact ⟨_, rfl, k D H1 ws s1 hD eD dw⟩
end
end K26
set_option maxHeartbeats 4000000
namespace K26
open PySem PySem.Spec PyProof.Rows L2 Z
abbrev Cell : Type := Str × Int
abbrev DM : Type := List (Cell × W3)
abbrev Take : Type := Cell × Option W3
abbrev Ent : Type := W3 × Cell × List Take
def cK (c : Cell) : List Key := [Sum.inr c.1, Sum.inl c.2]
theorem cK_inj {a b : Cell} (h : cK a = cK b) : a = b := by
  obtain ⟨x, i⟩ := a
  obtain ⟨y, j⟩ := b
  unfold cK at h
  simp only [List.cons.injEq, Sum.inr.injEq, Sum.inl.injEq, and_true] at h
  rw [h.1, h.2]
def cD (c : Cell) : PyData := .tuple [.str c.1, .int c.2]
def tkD (t : Take) : PyData := .tuple [.str t.1.1, .int t.1.2, match t.2 with | none => .none | some w => wD w]
def entD (e : Ent) : PyData := .tuple [wD e.1, cD e.2.1, .tuple (e.2.2.map tkD)]
def dPut (m : DM) (c : Cell) (w : W3) : DM := if (m.any fun e => decide (e.1 = c)) = true then m.map (fun e => if e.1 = c then (e.1, w) else e) else m ++ [(c, w)]
def dGet (m : DM) (c : Cell) : Option W3 := (m.find? fun e => decide (e.1 = c)).map (·.2)
def DR (H : Hp) : List (List Key × V) → DM → Prop
  | [], [] => True
  | e :: r, f :: m => e.1 = cK f.1 ∧ DT H e.2 (wD f.2) ∧ DR H r m
  | [], _ :: _ => False
  | _ :: _, [] => False
section
variable {H H' : Hp}
theorem DR.to (s : TSame H H') : ∀ {kvs : List (List Key × V)} {m : DM}, DR H kvs m → DR H' kvs m
  | [], [], _ => trivial
  | e :: r, f :: m, h => ⟨h.1, h.2.1.to s, DR.to s h.2.2⟩
  | [], _ :: _, h => h.elim
  | _ :: _, [], h => h.elim
theorem DR.len : ∀ {kvs : List (List Key × V)} {m : DM}, DR H kvs m → kvs.length = m.length
  | [], [], _ => rfl
  | e :: r, f :: m, h => by rw [List.length_cons, List.length_cons, DR.len h.2.2]
  | [], _ :: _, h => h.elim
  | _ :: _, [], h => h.elim
theorem DR.get (c : Cell) : ∀ {kvs : List (List Key × V)} {m : DM}, DR H kvs m → (valV kvs (cK c) = none ∧ dGet m c = none) ∨ ∃ v w, valV kvs (cK c) = some v ∧ dGet m c = some w ∧ DT H v (wD w)
  | [], [], _ => .inl ⟨rfl, rfl⟩
  | e :: r, f :: m, h => by
    by_cases hc : f.1 = c
    · refine .inr ⟨e.2, f.2, valV_pos (by rw [h.1, hc]), ?_, h.2.1⟩
      unfold dGet
      rw [List.find?_cons]
      simp [hc]
    · have e1 : valV (e :: r) (cK c) = valV r (cK c) := valV_neg (by rw [h.1]; exact fun z => hc (cK_inj z))
      have e2 : dGet (f :: m) c = dGet m c := by
        unfold dGet
        rw [List.find?_cons]
        simp [hc]
      rw [e1, e2]
      exact DR.get c h.2.2
  | [], _ :: _, h => h.elim
  | _ :: _, [], h => h.elim
theorem DR.any (c : Cell) : ∀ {kvs : List (List Key × V)} {m : DM}, DR H kvs m → (kvs.any fun kv => decide (kv.1 = cK c)) = (m.any fun e => decide (e.1 = c))
  | [], [], _ => rfl
  | e :: r, f :: m, h => by
    rw [List.any_cons, List.any_cons, DR.any c h.2.2, h.1]
    congr 1
    exact decide_eq_decide.mpr ⟨fun z => cK_inj z, fun z => by rw [z]⟩
  | [], _ :: _, h => h.elim
  | _ :: _, [], h => h.elim
theorem DR.map {c : Cell} {w : W3} {v : V} (hv : DT H v (wD w)) : ∀ {kvs : List (List Key × V)} {m : DM}, DR H kvs m → DR H (kvs.map fun kv => if kv.1 = cK c then (kv.1, v) else kv) (m.map fun e => if e.1 = c then (e.1, w) else e)
  | [], [], _ => trivial
  | e :: r, f :: m, h => by
    rw [List.map_cons, List.map_cons]
    by_cases hc : f.1 = c
    · rw [if_pos hc, if_pos (by rw [h.1, hc])]
      exact ⟨h.1, hv, DR.map hv h.2.2⟩
    · rw [if_neg hc, if_neg (by rw [h.1]; exact fun z => hc (cK_inj z))]
      exact ⟨h.1, h.2.1, DR.map hv h.2.2⟩
  | [], _ :: _, h => h.elim
  | _ :: _, [], h => h.elim
theorem DR.app {c : Cell} {w : W3} {v : V} (hv : DT H v (wD w)) : ∀ {kvs : List (List Key × V)} {m : DM}, DR H kvs m → DR H (kvs ++ [(cK c, v)]) (m ++ [(c, w)])
  | [], [], _ => ⟨rfl, hv, trivial⟩
  | e :: r, f :: m, h => ⟨h.1, h.2.1, DR.app hv h.2.2⟩
  | [], _ :: _, h => h.elim
  | _ :: _, [], h => h.elim
theorem DR.put {c : Cell} {w : W3} {v : V} {kvs : List (List Key × V)} {m : DM} (h : DR H kvs m) (hv : DT H v (wD w)) : DR H (putK kvs (cK c) v) (dPut m c w) := by
  unfold putK dPut
  rw [h.any c]
  split
  · exact h.map hv
  · exact h.app hv
end
theorem dPut_len {m : DM} {c : Cell} {w : W3} : (dPut m c w).length ≤ m.length + 1 := by
  unfold dPut
  split
  · rw [List.length_map]
    omega
  · rw [List.length_append]
    exact Nat.le_refl _
def cellOf (s : StM) (c n : Int) : Cell := (s.x, s.a * c + s.b * n + s.c)
def rdCell (r : RdM) (c n : Int) : Cell := (r.x, (r.a * c + r.b * n + r.c).fdiv r.d)
def stAt (ls : List LpM) (w : W3) : Option StM := (ls[w.1.toNat]?).bind fun l => l.sts[w.2.2.toNat]?
def tks (m : DM) (rs : List RdM) (c n : Int) : List Take := rs.map fun r => (rdCell r c n, dGet m (rdCell r c n))
def lgStep (ls : List LpM) (n : Int) (st : List Ent × DM) (w : W3) : List Ent × DM := match stAt ls w with
  | some s => (st.1 ++ [(w, cellOf s w.2.1 n, tks st.2 s.rds w.2.1 n)], dPut st.2 (cellOf s w.2.1 n) w)
  | none => st
def lg (ls : List LpM) (n : Int) (ws : List W3) : List Ent × DM := ws.foldl (lgStep ls n) ([], [])
section
variable {ls : List LpM} {n : Int} {ws : List W3} {i : Nat} {w : W3} {s : StM}
theorem lg_succ (h : ws[i]? = some w) (hs : stAt ls w = some s) : lg ls n (ws.take (i + 1)) = ((lg ls n (ws.take i)).1 ++ [(w, cellOf s w.2.1 n, tks (lg ls n (ws.take i)).2 s.rds w.2.1 n)], dPut (lg ls n (ws.take i)).2 (cellOf s w.2.1 n) w) := by
  unfold lg
  rw [List.take_add_one, h, List.foldl_append]
  show lgStep ls n _ w = _
  unfold lgStep
  rw [hs]
theorem lg_len : (lg ls n ws).1.length ≤ ws.length ∧ (lg ls n ws).2.length ≤ ws.length := by
  have : ∀ (ws : List W3) (st : List Ent × DM), (ws.foldl (lgStep ls n) st).1.length ≤ st.1.length + ws.length ∧ (ws.foldl (lgStep ls n) st).2.length ≤ st.2.length + ws.length := by
    intro ws
    induction ws with
    | nil => intro st; exact ⟨Nat.le_refl _, Nat.le_refl _⟩
    | cons w ws ih =>
      intro st
      rw [List.foldl_cons]
      have h := ih (lgStep ls n st w)
      have h2 : (lgStep ls n st w).1.length ≤ st.1.length + 1 ∧ (lgStep ls n st w).2.length ≤ st.2.length + 1 := by
        unfold lgStep
        split
        · exact ⟨by rw [List.length_append]; exact Nat.le_refl _, dPut_len⟩
        · exact ⟨by omega, by omega⟩
      rw [List.length_cons]
      omega
  have h := this ws ([], [])
  unfold lg
  simpa using h
end
/-- where a work of the rows stands -/
theorem works_mem {ls : List LpM} {n : Int} {w : W3} (h : w ∈ works ls n) : ∃ (j k : Nat) (l : LpM) (s : StM), w.1 = (j : Int) ∧ w.2.2 = (k : Int) ∧ ls[j]? = some l ∧ w.2.1 ∈ lpCs l n ∧ l.sts[k]? = some s := by
  unfold works wA at h
  obtain ⟨j, hj, h⟩ := List.mem_flatMap.mp h
  cases hl : ls[j]? with
  | none =>
    rw [hl] at h
    cases h
  | some l =>
    rw [hl] at h
    unfold wC at h
    obtain ⟨c, hc, h⟩ := List.mem_flatMap.mp h
    unfold wS at h
    obtain ⟨k, hk, h⟩ := List.mem_flatMap.mp h
    unfold w1 at h
    cases hs : l.sts[k]? with
    | none =>
      rw [hs] at h
      cases h
    | some s =>
      rw [hs] at h
      dsimp only at h
      split at h
      · rw [List.mem_singleton.mp h]
        exact ⟨j, k, l, s, rfl, rfl, hl, List.mem_of_mem_take hc, hs⟩
      · cases h
theorem stAt_of {ls : List LpM} {w : W3} {j k : Nat} {l : LpM} {s : StM} (h1 : w.1 = (j : Int)) (h2 : w.2.2 = (k : Int)) (hl : ls[j]? = some l) (hs : l.sts[k]? = some s) : stAt ls w = some s := by
  unfold stAt
  rw [h1, h2, Int.toNat_natCast, Int.toNat_natCast, hl]
  exact hs
theorem works_len {ls : List LpM} {n : Int} (ok : ∀ l ∈ ls, LpOk l) (l3 : ls.length ≤ 3) (n0 : 0 ≤ n) (n8 : n ≤ 8) : (works ls n).length ≤ 540 := by
  have h := wA_len (m := ls.length) ok n0 n8
  unfold works
  omega
theorem dt_w {H : Hp} {v : V} {w : W3} (h : DT H v (wD w)) : ∃ t, v = .ref t ∧ H t = some (.tup [.int w.1, .int w.2.1, .int w.2.2]) := dt3' h
theorem atI_last {xs : List V} {x : V} : atI (xs ++ [x]) (-1) = some x := by
  have e : ixN (xs ++ [x]).length (-1) = some xs.length := by
    unfold ixN
    rw [List.length_append, List.length_singleton]
    split
    · omega
    · split
      · congr 1
        omega
      · omega
  unfold atI
  rw [e]
  simp
def spLog : Sp := fun vs H Q _ => ∃ (r : Addr) (xs : List V) (ls : List LpM) (n : Int), vs = [.ref r, .int n] ∧ H r = some (.lst xs) ∧ DTs H xs (ls.map lpD) ∧ ls.length ≤ 3 ∧ (∀ l ∈ ls, LpOk l) ∧ 0 ≤ n ∧ n ≤ 8 ∧
  ∀ (T F L : Addr) (H' : Hp) (fs : List V) (kvs : List (List Key × V)), Same H H' → H' T = some (.tup [.ref F, .ref L]) → H' F = some (.lst fs) → DTs H' fs ((lg ls n (works ls n)).1.map entD) → H' L = some (.dT kvs) → DR H' kvs (lg ls n (works ls n)).2 → H F = none → H L = none → Q (.ref T) H'
section
variable {P : Program} {w : World} {K : PySem.W.Frag} {mg : Str → Option Value} {base : Heap}
theorem sc_law_log : FnScope ["_law_rows", "_law_n", "_law_found", "_law_lasts", "_law_work", "_law_row", "_law_took", "_law_array", "_law_place", "_law_many", "_law_cell"] ["_law_rows", "_law_n"] (defScope s_law_log) := ⟨rfl, rfl, rfl, by decide +kernel, rfl, by decide +kernel, by decide +kernel⟩
theorem ok_log {f : Addr} {fd : FuncData} (F : FnP K "_law_log" s_law_log f fd) (T : LwTx K mg) (dWorks : Dn P w K mg base 3 "_law_works" ["_law_rows", "_law_n"] spWorks) (dValue : Dn P w K mg base 1 "_law_value" ["_law_row", "_law_i", "_law_n"] spValue) :
    FnOk P w K mg base CX0 4 f fd ["_law_rows", "_law_n"] spLog := by
  refine F.ok sc_law_log (fun vs H Q E h => ?_) (fun cdv A outer s H vs Q E hr h => ?_)
  · obtain ⟨r, xs, ls, n, rfl, _⟩ := h
    rfl
  · obtain ⟨r, xs, ls, n, rfl, hr0, ds, l3, ok, n0, n8, k⟩ := h
    have hu := hu_of hr
    refine ⟨_, PSs.nox (pss_cons (ps_par (i := 2) (j := 3) (by rfl) sc_law_log.nd rfl rfl (by decide) rfl rfl (pa_cons (pe_lst pa_nil) (pa_cons pe_dnewT pa_nil)) (by rfl))
      (pss_cons (ps_for PassesOwn.never rfl (pi_list (pe_dn dWorks hr (pa_cons (pv 0) (pa_cons (pv 1) pa_nil)))) (pg_name (i := 4) sc_law_log.nd rfl (.inl rfl)) (pss_cons (ps_set (i := 5) sc_law_log.nd rfl (Or.inl rfl) (pe_ix (ix_tupK (K := K) rfl) (pe_ix (ix_tupK (K := K) rfl) (pe_ix ix_list (pv 0) (pe_ix (ix_tupK (K := K) rfl) (pv 4) pe_int (fun _ _ => rfl)) (fun _ _ => rfl)) pe_int (fun _ _ => rfl)) (pe_ix (ix_tupK (K := K) rfl) (pv 4) pe_int (fun _ _ => rfl)) (fun _ _ => rfl)))
      (pss_cons (ps_set (i := 6) sc_law_log.nd rfl (Or.inl rfl) (pe_lst pa_nil))
      (pss_cons (ps_for PassesOwn.never rfl (pi_tup (pe_ix (ix_tupK (K := K) rfl) (pv 5) pe_int (fun _ _ => rfl))) (pg_tup (by rfl) (pgs_cons (pg_name (i := 7) sc_law_log.nd rfl (.inl rfl)) (pgs_cons (pg_name (i := 8) sc_law_log.nd rfl (.inl rfl)) (pgs_cons (pg_name (i := 9) sc_law_log.nd rfl (.inl rfl)) pgs_nil)))) (pss_cons (ps_set (i := 10) sc_law_log.nd rfl (Or.inl rfl) (pe_tup (pa_cons (pv 7) (pa_cons (pe_dn dValue hr (pa_cons (pv 8) (pa_cons (pe_ix (ix_tupK (K := K) rfl) (pv 4) pe_int (fun _ _ => rfl)) (pa_cons (pv 1) pa_nil)))) pa_nil))))
      (pss_one (ps_expr (pe_bm PySem.F.plainAttrs_list PySem.F.slot_list_append PySem.F.type_list_append mt_append (pv 6) (pa_cons (pe_op op_catT (pv 10) (pe_tup (pa_cons (pe_ifExp (pt_cmp (pc_din hu (pv 10) (pv 3))) (pe_dget hu (pv 3) (pv 10) (fun _ _ => rfl)) pe_non) pa_nil))) pa_nil))))))
      (pss_cons (ps_expr (pe_bm PySem.F.plainAttrs_list PySem.F.slot_list_append PySem.F.type_list_append mt_append (pv 2) (pa_cons (pe_tup (pa_cons (pv 4) (pa_cons (pe_tup (pa_cons (pe_ix (ix_tupK (K := K) rfl) (pv 5) pe_int (fun _ _ => rfl)) (pa_cons (pe_dn dValue hr (pa_cons (pe_ix (ix_tupK (K := K) rfl) (pv 5) pe_int (fun _ _ => rfl)) (pa_cons (pe_ix (ix_tupK (K := K) rfl) (pv 4) pe_int (fun _ _ => rfl)) (pa_cons (pv 1) pa_nil)))) pa_nil))) (pa_cons (pe_callTy call_tuple_of (by rfl) T.tuple (by decide +kernel) (pa_cons (pv 6) pa_nil)) pa_nil)))) pa_nil)))
      (pss_one (ps_dput hu (pv 3) (pe_ix (ix_tupK (K := K) rfl) (pe_ix ix_list (pv 2) (pe_un un_neg pe_int) (fun _ _ => rfl)) pe_int (fun _ _ => rfl)) (pv 4) rfl)))))))
      (pss_one (ps_ret (pe_tup (pa_cons (pv 2) (pa_cons (pv 3) pa_nil))))))), ?_⟩
    refine ⟨(by decide), fun F hF => fun L hL => ⟨_, _, rfl, ?_⟩⟩
    have nLF : L ≠ F := fun z => by
      rw [z, upd_same] at hL
      cases hL
    have hL0 : H L = none := by
      rw [upd_ne nLF] at hL
      exact hL
    have sF := Same.new (.lst []) (Same.refl H) hF
    obtain ⟨H1, eH1⟩ : ∃ X, X = upd (upd H F (.lst [])) L (.dT []) := ⟨_, rfl⟩
    have s1 : Same H H1 := by rw [eH1]; exact Same.new _ sF hL
    have eF1 : H1 F = some (.lst []) := by rw [eH1, upd_ne nLF.symm]; exact upd_same
    have eL1 : H1 L = some (.dT []) := by rw [eH1]; exact upd_same
    rw [← eH1]
    refine norm (σ' := [some (.ref r), some (.int n), some (.ref F), some (.ref L), none, none, none, none, none, none, none]) rfl ?_
    refine ⟨_, rfl, _, rfl, r, xs, ls, n, rfl, s1 _ _ hr0, ds.to (.of s1), l3, ok, n0, n8, fun W H2 ws s2 hW eW dW => ⟨W, rfl, ⟨_, SqL.of eW⟩, ?_⟩⟩
    have nWF : W ≠ F := (ne_of_none eF1 hW).symm
    have nWL : W ≠ L := (ne_of_none eL1 hW).symm
    have lws : ws.length = (works ls n).length := by rw [dW.len, List.length_map]
    have wl540 := works_len ok l3 n0 n8
    refine for_list (K := K) (xs := ws) (fun i σ H' => ∃ (v4 v5 v6 v7 v8 v9 v10 : Option V) (fs : List V) (kvs : List (List Key × V)), σ = [some (.ref r), some (.int n), some (.ref F), some (.ref L), v4, v5, v6, v7, v8, v9, v10] ∧
        H' F = some (.lst fs) ∧ DTs H' fs ((lg ls n ((works ls n).take i)).1.map entD) ∧ H' L = some (.dT kvs) ∧ DR H' kvs (lg ls n ((works ls n).take i)).2 ∧ Same H H' ∧ H' W = some (.lst ws) ∧ TSame H2 H')
      ⟨_, _, _, _, _, _, _, [], [], rfl, s2 _ _ eF1, .nil, s2 _ _ eL1, trivial, s1.trans s2, eW, .refl _⟩ (fun i σ H' _ z => by
        obtain ⟨_, _, _, _, _, _, _, _, _, _, _, _, _, _, _, e, _⟩ := z
        exact SqL.of e) ?_ ?_
    · rintro i v σ H3 hv ⟨v4, v5, v6, v7, v8, v9, v10, fs, kvs, rfl, eF, dF, eL, dL, s3, eW3, ts3⟩
      obtain ⟨w, hw, dw⟩ := dW.map' hv
      obtain ⟨tw, rfl, htw⟩ := dt_w (dw.to ts3)
      obtain ⟨j, q, l, s, hj, hq, hl, hc, hs⟩ := works_mem (List.mem_of_getElem? hw)
      have hst := stAt_of hj hq hl hs
      have okl := ok l (List.mem_of_getElem? hl)
      have oks : StOk s := by
        have := okl
        obtain ⟨_, _, _, _, _, _, _, _, _, _, _, _, _, _, _, _, _, okS⟩ := this
        exact okS s (List.mem_of_getElem? hs)
      obtain ⟨nmx, sm6, _, _, lr, _, okr, _⟩ := id oks
      have hi540 : i < 540 := by
        have := (List.getElem?_eq_some_iff.mp hw).1
        omega
      obtain ⟨m, hm⟩ : ∃ m, m = (lg ls n ((works ls n).take i)).2 := ⟨_, rfl⟩
      have lm : kvs.length ≤ 540 ∧ fs.length ≤ 540 := by
        have h1 := lg_len (ls := ls) (n := n) (ws := (works ls n).take i)
        rw [List.length_take] at h1
        have h2 := dL.len
        have h3 := dF.len
        rw [List.length_map] at h3
        omega
      rw [← hm] at dL
      refine normG (σ' := [some (.ref r), some (.int n), some (.ref F), some (.ref L), some (.ref tw), v5, v6, v7, v8, v9, v10]) rfl ?_
      obtain ⟨vl, hvl, dvl⟩ := DTs.get j _ (ds.to (.of s3)) (by rw [List.getElem?_map, hl]; rfl)
      obtain ⟨t, q1, q2, ts, ys, rfl, ht, _, _, hts, dst⟩ := dt_lp dvl
      obtain ⟨vs6, hvs6, dvs6⟩ := DTs.get q _ dst (by rw [List.getElem?_map, hs]; rfl)
      obtain ⟨t6, q6, tr6, tg6, x6, y6, rfl, h6, hq6, hr6, dr6, _, _⟩ := dt_st dvs6
      refine ⟨_, rfl, _, rfl, tw, _, _, _, rfl, rfl, SqT.of htw, at0, r, _, _, _, rfl, rfl, SqL.of (s3 _ _ hr0), (by rw [hj]; exact atI_nat hvl), t, _, _, _, rfl, rfl, SqT.of ht, at4, _, rfl, tw, _, _, _, rfl, rfl, SqT.of htw, at2, ts, _, _, _, rfl, rfl, SqT.of hts, (by rw [hq]; exact atI_nat hvs6), ?_⟩
      refine normG (σ' := [some (.ref r), some (.int n), some (.ref F), some (.ref L), some (.ref tw), some (.ref t6), v6, v7, v8, v9, v10]) rfl ?_
      refine ⟨(by decide), fun B hB => ?_⟩
      have nBF : F ≠ B := ne_of_none eF hB
      have nBL : L ≠ B := ne_of_none eL hB
      have nBW : W ≠ B := ne_of_none eW3 hB
      have s4 : Same H3 (upd H3 B (.lst [])) := Same.new _ (Same.refl H3) hB
      obtain ⟨H4, eH4⟩ : ∃ X, X = upd H3 B (.lst []) := ⟨_, rfl⟩
      have eB4 : H4 B = some (.lst []) := by rw [eH4]; exact upd_same
      rw [← eH4] at s4
      rw [← eH4]
      have hHB : H B = none := by
        cases hh : H B with
        | none => rfl
        | some o =>
          rw [s3 _ _ hh] at hB
          cases hB
      refine normG (σ' := [some (.ref r), some (.int n), some (.ref F), some (.ref L), some (.ref tw), some (.ref t6), some (.ref B), v7, v8, v9, v10]) rfl ?_
      have h6' := s4 _ _ h6
      refine ⟨_, rfl, t6, _, _, _, rfl, rfl, SqT.of h6', at3, tr6, rfl, ⟨_, SqT.of (s4 _ _ hr6)⟩, ?_⟩
      refine for_tup (K := K) (xs := x6) (fun b σ H' => ∃ (v7 v8 v9 v10 : Option V) (us : List V), σ = [some (.ref r), some (.int n), some (.ref F), some (.ref L), some (.ref tw), some (.ref t6), some (.ref B), v7, v8, v9, v10] ∧
          H' B = some (.lst us) ∧ DTs H' us ((tks m (s.rds.take b) w.2.1 n).map tkD) ∧ H' F = some (.lst fs) ∧ H' L = some (.dT kvs) ∧ Same H H' ∧ H' W = some (.lst ws) ∧ TSame H4 H')
        ⟨_, _, _, _, [], rfl, eB4, .nil, s4 _ _ eF, s4 _ _ eL, s3.trans s4, s4 _ _ eW3, .refl _⟩ (fun b σ H' _ z => by
          obtain ⟨_, _, _, _, _, _, _, _, _, _, _, _, tsz⟩ := z
          exact SqT.of (tsz _ _ (s4 _ _ hr6))) ?_ ?_
      · rintro b rv σ H5 hrv ⟨v7, v8, v9, v10, us, rfl, eB, dB, eF5, eL5, s5, eW5, ts5⟩
        have ts35 : TSame H3 H5 := (TSame.of s4).trans ts5
        obtain ⟨rm_, erm, drm⟩ := (dr6.to ts35).map' hrv
        obtain ⟨t4, q4, rfl, h4, hq4⟩ := dt_rd drm
        have okrm := okr rm_ (List.mem_of_getElem? erm)
        have lus : us.length ≤ 3 := by
          rw [dB.len, List.length_map]
          unfold tks
          rw [List.length_map, List.length_take]
          omega
        refine ⟨t4, _, rfl, SqT.of h4, rfl, _, _, rfl, ?_⟩
        refine normG (σ' := [some (.ref r), some (.int n), some (.ref F), some (.ref L), some (.ref tw), some (.ref t6), some (.ref B), some (.str rm_.x), v8, v9, v10]) rfl ?_
        refine ⟨_, _, rfl, ?_⟩
        refine normG (σ' := [some (.ref r), some (.int n), some (.ref F), some (.ref L), some (.ref tw), some (.ref t6), some (.ref B), some (.str rm_.x), some (.ref q4), v9, v10]) rfl ?_
        refine ⟨_, _, rfl, ?_⟩
        refine normG (σ' := [some (.ref r), some (.int n), some (.ref F), some (.ref L), some (.ref tw), some (.ref t6), some (.ref B), some (.str rm_.x), some (.ref q4), some (.int rm_.f), v10]) rfl ?_
        refine ⟨rfl, ?_⟩
        have htw5 := ts35 _ _ htw
        have smr := sm3_a okrm.2.1
        obtain ⟨cv, hcv⟩ : ∃ cv, cv = (rm_.a * w.2.1 + rm_.b * n + rm_.c).fdiv rm_.d := ⟨_, rfl⟩
        refine ⟨_, rfl, _, rfl, _, rfl, tw, _, _, _, rfl, rfl, SqT.of htw5, at1, _, rfl, q4, rm_.a, rm_.b, rm_.c, w.2.1, n, [.int rm_.d], rfl, hq4, smr.1, smr.2, .inr ⟨rm_.d, rfl, okrm.2.2.1, okrm.2.2.2.1, sz2, fun C hC => ?_⟩⟩
        rw [← hcv]
        have s6 : Same H5 (upd H5 C (.tup [.str rm_.x, .int cv])) := Same.new _ (Same.refl H5) hC
        obtain ⟨H6, eH6⟩ : ∃ X, X = upd H5 C (.tup [.str rm_.x, .int cv]) := ⟨_, rfl⟩
        have eC6 : H6 C = some (.tup ((cK (rm_.x, cv)).map kV)) := by rw [eH6]; exact upd_same
        rw [← eH6] at s6
        rw [← eH6]
        refine normG (σ' := [some (.ref r), some (.int n), some (.ref F), some (.ref L), some (.ref tw), some (.ref t6), some (.ref B), some (.str rm_.x), some (.ref q4), some (.int rm_.f), some (.ref C)]) rfl ?_
        have eB6 := s6 _ _ eB
        have eL6 := s6 _ _ eL5
        have ts36 := ts35.trans (.of s6)
        have dL6 := dL.to ts36
        have fin : ∀ (vo : V) (o : Option W3), dGet m (rm_.x, cv) = o → DT H6 vo (match o with | none => .none | some w => wD w) → ∀ V1, H6 V1 = none → ∀ P5, (upd H6 V1 (.tup [vo])) P5 = none →
            ∃ (v7 v8 v9 v10 : Option V) (us' : List V), ([some (.ref r), some (.int n), some (.ref F), some (.ref L), some (.ref tw), some (.ref t6), some (.ref B), some (.str rm_.x), some (.ref q4), some (.int rm_.f), some (.ref C)] : L2.St) = [some (.ref r), some (.int n), some (.ref F), some (.ref L), some (.ref tw), some (.ref t6), some (.ref B), v7, v8, v9, v10] ∧
            (upd (upd (upd H6 V1 (.tup [vo])) P5 (.tup ([.str rm_.x, .int cv] ++ [vo]))) B (.lst (us ++ [.ref P5]))) B = some (.lst us') ∧ DTs (upd (upd (upd H6 V1 (.tup [vo])) P5 (.tup ([.str rm_.x, .int cv] ++ [vo]))) B (.lst (us ++ [.ref P5]))) us' ((tks m (s.rds.take (b + 1)) w.2.1 n).map tkD) ∧
            (upd (upd (upd H6 V1 (.tup [vo])) P5 (.tup ([.str rm_.x, .int cv] ++ [vo]))) B (.lst (us ++ [.ref P5]))) F = some (.lst fs) ∧ (upd (upd (upd H6 V1 (.tup [vo])) P5 (.tup ([.str rm_.x, .int cv] ++ [vo]))) B (.lst (us ++ [.ref P5]))) L = some (.dT kvs) ∧
            Same H (upd (upd (upd H6 V1 (.tup [vo])) P5 (.tup ([.str rm_.x, .int cv] ++ [vo]))) B (.lst (us ++ [.ref P5]))) ∧ (upd (upd (upd H6 V1 (.tup [vo])) P5 (.tup ([.str rm_.x, .int cv] ++ [vo]))) B (.lst (us ++ [.ref P5]))) W = some (.lst ws) ∧ TSame H4 (upd (upd (upd H6 V1 (.tup [vo])) P5 (.tup ([.str rm_.x, .int cv] ++ [vo]))) B (.lst (us ++ [.ref P5]))) := by
          intro vo o ho dvo V1 hV1 P5 hP5
          have s7 := Same.new (.tup ([.str rm_.x, .int cv] ++ [vo])) (Same.new (.tup [vo]) (Same.refl H6) hV1) hP5
          have eB7 := s7 _ _ eB6
          have tsU : TSame (upd (upd H6 V1 (.tup [vo])) P5 (.tup ([.str rm_.x, .int cv] ++ [vo]))) (upd (upd (upd H6 V1 (.tup [vo])) P5 (.tup ([.str rm_.x, .int cv] ++ [vo]))) B (.lst (us ++ [.ref P5]))) := .updL eB7
          refine ⟨_, _, _, _, us ++ [.ref P5], rfl, upd_same, ?_, ?_, ?_, fun b' o' e => ?_, ?_, (ts5.trans (.of s6)).trans ((TSame.of s7).trans tsU)⟩
          · have e : (tks m (s.rds.take (b + 1)) w.2.1 n).map tkD = (tks m (s.rds.take b) w.2.1 n).map tkD ++ [tkD ((rm_.x, cv), o)] := by
              unfold tks
              rw [List.take_add_one, erm, List.map_append, List.map_append]
              congr 1
              show [tkD (rdCell rm_ w.2.1 n, dGet m (rdCell rm_ w.2.1 n))] = _
              rw [show rdCell rm_ w.2.1 n = (rm_.x, cv) by unfold rdCell; rw [hcv], ho]
            rw [e]
            refine (dB.to ((TSame.of (s6.trans s7)).trans tsU)).app (.one ?_)
            refine .tup (tsU _ _ upd_same) (.cons (.str _) (.cons (.int _) (.cons ?_ .nil)))
            exact dvo.to ((TSame.of s7).trans tsU)
          · rw [upd_ne nBF]
            exact s7 _ _ (s6 _ _ eF5)
          · rw [upd_ne nBL]
            exact s7 _ _ eL6
          · rw [upd_ne (ne_of_none e hHB)]
            exact s7 _ _ (s6 _ _ (s5 b' o' e))
          · rw [upd_ne nBW]
            exact s7 _ _ (s6 _ _ eW5)
        refine ⟨_, rfl, .inl ⟨rfl, _, SqL.of eB6⟩, _, rfl, _, rfl, _, rfl, L, _, rfl, DGet.t eL6 eC6, _, rfl, ?_⟩
        rcases dL6.get (rm_.x, cv) with ⟨e1, e2⟩ | ⟨vo, wo, e1, e2, dvo⟩
        · rw [e1]
          refine if_no rfl ?_
          refine ⟨sz1, fun V1 hV1 => ⟨C, V1, _, _, rfl, rfl, SqT.of (Same.new _ (Same.refl H6) hV1 _ _ eC6), SqT.of upd_same, List.cons_ne_nil _ _, sz3, (fun z => by cases z), fun _ P5 hP5 => ?_⟩⟩
          exact ⟨B, _, _, rfl, rfl, Same.new _ (Same.new _ (Same.refl H6) hV1) hP5 _ _ eB6, sz1l _ (by omega), fin .non none e2 .non V1 hV1 P5 hP5⟩
        · rw [e1]
          refine if_yes rfl ?_
          refine ⟨_, rfl, _, rfl, L, vo, rfl, (e1 ▸ DGet.t eL6 eC6), sz1, fun V1 hV1 => ⟨C, V1, _, _, rfl, rfl, SqT.of (Same.new _ (Same.refl H6) hV1 _ _ eC6), SqT.of upd_same, List.cons_ne_nil _ _, sz3, (fun z => by cases z), fun _ P5 hP5 => ?_⟩⟩
          exact ⟨B, _, _, rfl, rfl, Same.new _ (Same.new _ (Same.refl H6) hV1) hP5 _ _ eB6, sz1l _ (by omega), fin vo (some wo) e2 dvo V1 hV1 P5 hP5⟩
      · rintro σ H5 ⟨v7, v8, v9, v10, us, rfl, eB, dB, eF5, eL5, s5, eW5, ts5⟩
        have lx6 : x6.length = s.rds.length := by rw [dr6.len, List.length_map]
        rw [lx6, List.take_length] at dB
        have ts35 : TSame H3 H5 := (TSame.of s4).trans ts5
        have h65 := ts35 _ _ h6
        have hq65 := ts35 _ _ hq6
        have htw5 := ts35 _ _ htw
        have sms := sm3_a sm6
        obtain ⟨cv, hcv⟩ : ∃ cv, cv = s.a * w.2.1 + s.b * n + s.c := ⟨_, rfl⟩
        refine ⟨_, rfl, .inl ⟨rfl, _, SqL.of eF5⟩, _, rfl, _, rfl, t6, _, _, _, rfl, rfl, SqT.of h65, at0, _, rfl, t6, _, _, _, rfl, rfl, SqT.of h65, at1, _, rfl, tw, _, _, _, rfl, rfl, SqT.of htw5, at1, _, rfl, q6, s.a, s.b, s.c, w.2.1, n, [], rfl, hq65, sms.1, sms.2, .inl ⟨rfl, sz2, fun C hC => ?_⟩⟩
        rw [← hcv]
        have s6 : Same H5 (upd H5 C (.tup [.str s.x, .int cv])) := Same.new _ (Same.refl H5) hC
        obtain ⟨H6, eH6⟩ : ∃ X, X = upd H5 C (.tup [.str s.x, .int cv]) := ⟨_, rfl⟩
        have eC6 : H6 C = some (.tup [.str s.x, .int cv]) := by rw [eH6]; exact upd_same
        rw [← eH6] at s6
        rw [← eH6]
        refine ⟨_, rfl, B, _, rfl, .inl ⟨SqL.of (s6 _ _ eB), fun TT hTT => ⟨sz3, fun EE hEE => ?_⟩⟩⟩
        have s7 : Same H6 (upd (upd H6 TT (.tup us)) EE (.tup [.ref tw, .ref C, .ref TT])) := Same.new _ (Same.new _ (Same.refl H6) hTT) hEE
        obtain ⟨H7, eH7⟩ : ∃ X, X = upd (upd H6 TT (.tup us)) EE (.tup [.ref tw, .ref C, .ref TT]) := ⟨_, rfl⟩
        have eEE : H7 EE = some (.tup [.ref tw, .ref C, .ref TT]) := by rw [eH7]; exact upd_same
        have eTT : H7 TT = some (.tup us) := by
          rw [eH7]
          exact Same.new _ (Same.refl _) hEE _ _ upd_same
        rw [← eH7] at s7
        rw [← eH7]
        have s57 := s6.trans s7
        have eF7 := s57 _ _ eF5
        have eL7 := s57 _ _ eL5
        have eC7 := s7 _ _ eC6
        refine ⟨F, _, _, rfl, rfl, eF7, sz1l _ (by omega), ?_⟩
        obtain ⟨H8, eH8⟩ : ∃ X, X = upd H7 F (.lst (fs ++ [.ref EE])) := ⟨_, rfl⟩
        have ts78 : TSame H7 H8 := by rw [eH8]; exact .updL eF7
        have eF8 : H8 F = some (.lst (fs ++ [.ref EE])) := by rw [eH8]; exact upd_same
        have eL8 : H8 L = some (.dT kvs) := by rw [eH8, upd_ne nLF]; exact eL7
        rw [← eH8]
        have eC8 : H8 C = some (.tup ((cK (s.x, cv)).map kV)) := ts78 _ _ eC7
        have ts38 : TSame H3 H8 := ts35.trans ((TSame.of s57).trans ts78)
        refine ⟨_, rfl, _, rfl, _, rfl, _, rfl, F, _, _, _, rfl, rfl, SqL.of eF8, atI_last, EE, _, _, _, rfl, rfl, SqT.of (ts78 _ _ eEE), at1, L, _, rfl, DPut.t eL8 eC8 (sz1l _ (by omega)), ?_⟩
        have ts89 : TSame H8 (upd H8 L (.dT (putK kvs (cK (s.x, cv)) (.ref tw)))) := .updT eL8
        have ts39 := ts38.trans ts89
        have cell : cellOf s w.2.1 n = (s.x, cv) := by
          unfold cellOf
          rw [hcv]
        refine ⟨_, _, _, _, _, _, _, fs ++ [.ref EE], putK kvs (cK (s.x, cv)) (.ref tw), rfl, ?_, ?_, upd_same, ?_, fun b o e => ?_, ?_, ts3.trans ts39⟩
        · rw [upd_ne nLF.symm]
          exact eF8
        · rw [lg_succ hw hst]
          refine (dF.to ts39).snoc ?_
          rw [cell, ← hm]
          exact .tup ((ts78.trans ts89) _ _ eEE) (.cons ((dw.to ts3).to ts39) (.cons (.tup (ts89 _ _ eC8) (.cons (.str _) (.cons (.int _) .nil))) (.cons (.tup ((ts78.trans ts89) _ _ eTT) (dB.to ((TSame.of s57).trans (ts78.trans ts89)))) .nil)))
        · rw [lg_succ hw hst, cell, ← hm]
          exact (dL.to ts39).put ((dw.to ts3).to ts39)
        · have nb : b ≠ F := ne_of_none e hF
          have nb2 : b ≠ L := ne_of_none e hL0
          rw [upd_ne nb2, eH8, upd_ne nb]
          exact s57 _ _ (s5 b o e)
        · rw [upd_ne nWL, eH8, upd_ne nWF]
          exact s57 _ _ eW5
    · rintro σ H3 ⟨v4, v5, v6, v7, v8, v9, v10, fs, kvs, rfl, eF, dF, eL, dL, s3, eW3, ts3⟩
      rw [lws, List.take_length] at dF dL
      have hF0 := hF
      exact ⟨_, rfl, _, rfl, sz2, fun TT hTT => k TT F L _ fs kvs (Same.new _ s3 hTT) upd_same (Same.new _ (Same.refl H3) hTT _ _ eF) (dF.to (.new hTT)) (Same.new _ (Same.refl H3) hTT _ _ eL) (dL.to (.new hTT)) hF hL0⟩
end
end K26
set_option maxHeartbeats 4000000
namespace K26
open PySem PySem.Spec PyProof.Rows L2 Z
/-- a number, or something else of a plain kind -/
inductive IntV (H : Hp) : V → Bool → Prop where
  | int (i : Int) : IntV H (.int i) true
  | bl (b : Bool) : IntV H (.bl b) false
  | str (x : Str) : IntV H (.str x) false
  | non : IntV H .non false
  | tup {t : Addr} {xs : List V} (h : H t = some (.tup xs)) : IntV H (.ref t) false
def spIsIntA : Sp := fun vs H Q _ => ∃ (v : V) (b : Bool), vs = [v] ∧ IntV H v b ∧ Q (.bl b) H
def spIntFromA : Sp := fun vs H Q _ => ∃ (v : V) (lo hi : Int), vs = [v, .int lo, .int hi] ∧ ((∃ i : Int, v = .int i ∧ Q (.bl (decide (lo ≤ i ∧ i ≤ hi))) H) ∨ (IntV H v false ∧ Q (.bl false) H))
def TOP : Int := 1000000000000000000000000000000
def spIsSize : Sp := fun vs H Q _ => ∃ v : V, vs = [v] ∧ ((∃ i : Int, v = .int i ∧ Q (.bl (decide (0 ≤ i ∧ i ≤ TOP))) H) ∨ (IntV H v false ∧ Q (.bl false) H))
/-- how many turns in all -/
def tot (ls : List LpM) (n : Int) : Int := (ls.map fun l => lpN l n).sum
/-- an own error, its fields in order, is raised; all else as it was -/
def RzV (K : PySem.W.Frag) (x : Str) (fs : List Str) (vs : List V) (H : Hp) (E : XK) : Prop := ∀ (d : Addr) (H' : Hp), Same H H' → H' d = some (.xd (fs.zip vs).reverse) → E (.ref (He.ga K x)) (some d) H'
theorem RzV.same {K : PySem.W.Frag} {x : Str} {fs : List Str} {vs : List V} {H H1 : Hp} {E : XK} (h : RzV K x fs vs H E) (s : Same H H1) : RzV K x fs vs H1 E := fun d H' s' hd => h d H' (s.trans s') hd
def spCkRun (K : PySem.W.Frag) : Sp := fun vs H Q E => ∃ (v nv : V) (ls : List LpM), vs = [v, nv] ∧ PrOb K H v ls ∧ ls.length ≤ 3 ∧ (∀ l ∈ ls, LpOk l) ∧
  ((IntV H nv false ∧ RzV K "BadSize" ["n"] [nv] H E) ∨ ∃ n : Int, nv = .int n ∧ (¬ (0 ≤ n ∧ n ≤ TOP) → RzV K "BadSize" ["n"] [.int n] H E) ∧
    (0 ≤ n ∧ n ≤ TOP → (20000 < tot ls n → RzV K "TooLong" ["many"] [.int (tot ls n)] H E) ∧ (tot ls n ≤ 20000 → ∀ H', Same H H' → Q .non H')))
def spStmOf (K : PySem.W.Frag) : Sp := fun vs H Q _ => ∃ (v : V) (ls : List LpM) (tw : Addr) (w : W3) (j k : Nat) (l : LpM) (s : StM), vs = [v, .ref tw] ∧ PrOb K H v ls ∧ H tw = some (.tup [.int w.1, .int w.2.1, .int w.2.2]) ∧
  w.1 = (j : Int) ∧ w.2.2 = (k : Int) ∧ ls[j]? = some l ∧ l.sts[k]? = some s ∧ ∀ v', StOb K H v' s → Q v' H
theorem kbi {K : PySem.W.Frag} : PySem.W.kitOne K (.type "bool") (.type "int") = some true := kit_ty (by decide +kernel)
theorem kbb {K : PySem.W.Frag} : PySem.W.kitOne K (.type "bool") (.type "bool") = some true := kit_ty (by decide +kernel)
theorem ksi {K : PySem.W.Frag} : PySem.W.kitOne K (.type "str") (.type "int") = some false := kit_ty (by decide +kernel)
theorem kni {K : PySem.W.Frag} : PySem.W.kitOne K (.type "NoneType") (.type "int") = some false := kit_ty (by decide +kernel)
theorem kti {K : PySem.W.Frag} : PySem.W.kitOne K (.type "tuple") (.type "int") = some false := kit_ty (by decide +kernel)
/-- the error classes of runs -/
structure RunE (P : Program) (w : World) (K : PySem.W.Frag) (mg : Str → Option Value) (base : Heap) : Prop where
  z : Mx P w K mg base "BadSize" ["self", "n"] ["n"]
  l : Mx P w K mg base "TooLong" ["self", "many"] ["many"]
section
variable {P : Program} {w : World} {K : PySem.W.Frag} {mg : Str → Option Value} {base : Heap}
theorem ok_isIntA {f : Addr} {fd : FuncData} (F : FnP K "is_integer" s_is_integer f fd) (T : StTx K mg) : FnOk P w K mg base CX0 1 f fd ["value"] spIsIntA := by
  refine F.ok sc_is_integer (fun vs H Q E h => ?_) (fun cdv A outer s H vs Q E hr h => ?_)
  · obtain ⟨v, b, rfl, _⟩ := h
    rfl
  · obtain ⟨v, b, rfl, h, q⟩ := h
    refine ⟨_, PSs.nox (pss_one (ps_ret (pe_and (pe_callB call_isi (by rfl) T.isi (by decide +kernel) (pa_cons (pv 0) (pa_cons (pe_bltn (v := .ty "int") (by rfl) T.int (by decide +kernel) rfl) pa_nil))) (pe_one (pe_not (pe_callB call_isi (by rfl) T.isi (by decide +kernel) (pa_cons (pv 0) (pa_cons (pe_bltn (v := .ty "bool") (by rfl) T.bool (by decide +kernel) rfl) pa_nil)))))))), ?_⟩
    cases h with
    | int i =>
      refine ⟨_, rfl, _, _, _, _, _, rfl, .ty _, .base (.int i), kii, _, rfl, iteT ?_⟩
      exact ⟨_, rfl, _, _, _, _, _, rfl, .ty _, .base (.int i), kib, _, rfl, q⟩
    | bl b =>
      refine ⟨_, rfl, _, _, _, _, _, rfl, .ty _, .base (.bl b), kbi, _, rfl, iteT ?_⟩
      exact ⟨_, rfl, _, _, _, _, _, rfl, .ty _, .base (.bl b), kbb, _, rfl, q⟩
    | str x => exact ⟨_, rfl, _, _, _, _, _, rfl, .ty _, .base (.str x), ksi, _, rfl, iteF q⟩
    | non => exact ⟨_, rfl, _, _, _, _, _, rfl, .ty _, .base .non, kni, _, rfl, iteF q⟩
    | tup ht => exact ⟨_, rfl, _, _, _, _, _, rfl, .ty _, .base (.tup ht), kti, _, rfl, iteF q⟩
theorem ok_intFromA {f : Addr} {fd : FuncData} (F : FnP K "is_integer_from" s_is_integer_from f fd) (dIsInt : Dn P w K mg base 1 "is_integer" ["value"] spIsIntA) : FnOk P w K mg base CX0 2 f fd ["value", "low", "high"] spIntFromA := by
  refine F.ok sc_is_integer_from (fun vs H Q E h => ?_) (fun cdv A outer s H vs Q E hr h => ?_)
  · obtain ⟨v, lo, hi, rfl, _⟩ := h
    rfl
  · obtain ⟨v, lo, hi, rfl, k⟩ := h
    refine ⟨_, PSs.nox (pss_one (ps_ret (pe_and (pe_dn dIsInt hr (pa_cons (pv 0) pa_nil)) (pe_one (pe_chain op_le op_le (pv 1) (pv 0) (pv 2)))))), ?_⟩
    rcases k with ⟨i, rfl, k⟩ | ⟨iv, k⟩
    · refine ⟨_, rfl, _, _, rfl, .int _, _, rfl, iteT ?_⟩
      refine ⟨_, rfl, _, rfl, _, _, rfl, rfl, _, rfl, ite2 (fun h => ?_) (fun h => ?_)⟩
      · have h1 : lo ≤ i := of_decide_eq_true h
        refine ⟨_, rfl, _, _, rfl, rfl, ?_⟩
        rw [show decide (lo ≤ i ∧ i ≤ hi) = decide (i ≤ hi) from decide_eq_decide.mpr ⟨fun z => z.2, fun z => ⟨h1, z⟩⟩] at k
        exact k
      · have h1 : ¬ lo ≤ i := fun z => h (decide_eq_true z)
        rw [decide_eq_false (fun z => h1 z.1)] at k
        exact k
    · exact ⟨_, rfl, _, _, rfl, iv, _, rfl, iteF k⟩
theorem sc_is_size : FnScope ["value"] ["value"] (defScope s_is_size) := ⟨rfl, rfl, rfl, by decide +kernel, rfl, by decide +kernel, by decide +kernel⟩
theorem ok_isSize {f : Addr} {fd : FuncData} (F : FnP K "is_size" s_is_size f fd) (T : LwTx K mg) (hTOP_SIZE : ∃ t, mg "TOP_SIZE" = some (.int TOP t)) (dIsIntFrom : Dn P w K mg base 2 "is_integer_from" ["value", "low", "high"] spIntFromA) : FnOk P w K mg base CX0 3 f fd ["value"] spIsSize := by
  refine F.ok sc_is_size (fun vs H Q E h => ?_) (fun cdv A outer s H vs Q E hr h => ?_)
  · obtain ⟨v, rfl, _⟩ := h
    rfl
  · obtain ⟨v, rfl, k⟩ := h
    obtain ⟨tTOP_SIZE, hTOP_SIZE⟩ := hTOP_SIZE
    refine ⟨_, PSs.nox (pss_one (ps_ret (pe_dn dIsIntFrom hr (pa_cons (pv 0) (pa_cons pe_int (pa_cons (pe_glob (v := .int 1000000000000000000000000000000) rfl hTOP_SIZE ⟨tTOP_SIZE, rfl⟩) pa_nil)))))), ?_⟩
    exact ⟨_, rfl, _, _, _, rfl, k⟩
theorem sc_check_run : FnScope ["program", "n", "many", "loop"] ["program", "n"] (defScope s_check_run) := ⟨rfl, rfl, rfl, by decide +kernel, rfl, by decide +kernel, by decide +kernel⟩
theorem ok_ckRun {f : Addr} {fd : FuncData} (F : FnP K "check_run" s_check_run f fd) (T : LwTx K mg) (hMOST_TURNS : ∃ t, mg "MOST_TURNS" = some (.int 20000 t)) (RE : RunE P w K mg base) (L : LM P w K mg base) (dIsSize : Dn P w K mg base 3 "is_size" ["value"] spIsSize) :
    FnOk P w K mg base (L2.CX P w) 5 f fd ["program", "n"] (spCkRun K) := by
  refine F.ok sc_check_run (fun vs H Q E h => ?_) (fun cdv A outer s H vs Q E hr h => ?_)
  · obtain ⟨v, nv, ls, rfl, _⟩ := h
    rfl
  · obtain ⟨v, nv, ls, rfl, ⟨p, xs, ys, rfl, ⟨dx, lt, at_, dk, hp, hlt, hat⟩, fa⟩, l3, ok, k⟩ := h
    obtain ⟨tMOST_TURNS, hMOST_TURNS⟩ := hMOST_TURNS
    obtain ⟨fdm, Fm, hbm, cm⟩ := L.mt
    have MZ := RE.z
    have ML := RE.l
    refine ⟨_, (pss_cons (ps_if (pt_not (pt_val (pe_dn dIsSize hr (pa_cons (pv 1) pa_nil)))) (pss_one (ps_raise rfl (takes_of rfl rfl rfl rfl) (pmk_err MZ hr (pa_cons (pv 1) pa_nil)))) pss_nil)
      (pss_cons (ps_set (i := 2) sc_check_run.nd rfl (Or.inl rfl) (pe_callB (cr_sum rfl) (by rfl) T.sum (by decide +kernel) (pa_cons (pe_lc (own := [("loop", 3)]) (g := gName 3) (tt := tYes) rfl sc_check_run.nd (pi_tup (pe_fld (pv 0) rfl)) (blkOk_by (N := ["program", "n", "many", "loop"]) (sc := defScope s_check_run) (by decide +kernel)) (fun _ _ _ _ _ => (pg_name (i := 3) sc_check_run.nd rfl (.inl rfl))) (fun _ _ _ _ _ => pts_nil) (fun _ _ _ _ _ => (pe_meth (pv 3) T.clL cm Fm (hr.mono (by decide)) hbm .nil pass0 (pa_cons (pv 1) pa_nil)))) pa_nil)))
      (pss_one (ps_if (pt_cmpR op_gt (pv 2) (pe_glob (v := .int 20000) rfl hMOST_TURNS ⟨tMOST_TURNS, rfl⟩) (nomark _)) (pss_one (ps_raise rfl (takes_of rfl rfl rfl rfl) (pmk_err ML hr (pa_cons (pv 2) pa_nil)))) pss_nil)))), ?_⟩
    have bad : ∀ nv : V, RzV K "BadSize" ["n"] [nv] H E → _ := fun nv z => err_go (K := K) (x := "BadSize") (fs := ["n"]) (vs := [nv]) (H1 := H) (Q := E) (by show 1 ≤ 1000; decide) rfl z
    rcases k with ⟨iv, k⟩ | ⟨n, rfl, k1, k2⟩
    · exact ⟨_, rfl, _, rfl, .inr ⟨iv, _, rfl, iteT ⟨_, rfl, bad _ k⟩⟩⟩
    · refine ⟨_, rfl, _, rfl, .inl ⟨n, rfl, _, rfl, ?_⟩⟩
      by_cases hn : 0 ≤ n ∧ n ≤ TOP
      · rw [decide_eq_true hn]
        obtain ⟨k2, k3⟩ := k2 hn
        refine iteF ?_
        refine ⟨_, rfl, p, _, dx, _, _, rfl, hp, T.clP, T.nPL, prf_l _ _ _, lt, rfl, ⟨_, hlt⟩, fun D hD => ?_⟩
        refine lc_tup (K := K) (xs := xs) (fun j Hc => Hc D = some (.lst (((ls.take j).map fun l => lpN l n).map V.int)) ∧ Same H Hc) ⟨upd_same, Same.new _ (Same.refl H) hD⟩ (fun j Hc _ z => SqT.same hlt z.2) ?_ ?_
        · rintro j v Hc hv ⟨eD, sc⟩
          obtain ⟨l, el, ob⟩ := (fa.imp fun _ _ z => z.same sc).at hv
          have okl := ok l (List.mem_of_getElem? el)
          refine ⟨rfl, yes_of ?_⟩
          obtain ⟨pl, dl, lo, hi, st, rfl, hpl⟩ := ob.ref
          refine ⟨_, rfl, pl, dl, _, rfl, hpl, no_mt _ _ _ _ _, _, rfl, _, l, n, rfl, ob, okl, _, eD, sz1l _ (by
            rw [List.length_map, List.length_map, List.length_take]
            omega), ?_, fun b o e => ?_⟩
          · rw [upd_same, List.take_add_one, el, List.map_append, List.map_append]
            rfl
          · rw [upd_ne (ne_of_none e hD)]
            exact sc b o e
        · rintro Hc ⟨eD, sc⟩
          have lcs : xs.length = ls.length := fa.1
          rw [lcs, List.take_length] at eD
          refine ⟨D, _, rfl, SqL.of eD, ?_⟩
          refine normG (σ' := [some (.ref p), some (.int n), some (.int (tot ls n)), none]) rfl ?_
          refine ⟨_, rfl, _, _, rfl, rfl, _, rfl, ite2 (fun h => ?_) (fun h => ?_)⟩
          · exact ⟨_, rfl, err_go (K := K) (x := "TooLong") (fs := ["many"]) (vs := [.int (tot ls n)]) (H1 := Hc) (Q := E) (by show 1 ≤ 1000; decide) rfl ((k2 (of_decide_eq_true h)).same sc)⟩
          · exact k3 (by
              have : ¬ 20000 < tot ls n := fun z => h (decide_eq_true z)
              omega) _ sc
      · rw [decide_eq_false hn]
        exact iteT ⟨_, rfl, bad _ (k1 hn)⟩
theorem sc_statement_of : FnScope ["program", "work"] ["program", "work"] (defScope s_statement_of) := ⟨rfl, rfl, rfl, by decide +kernel, rfl, by decide +kernel, by decide +kernel⟩
theorem ok_stmOf {f : Addr} {fd : FuncData} (F : FnP K "statement_of" s_statement_of f fd) (T : LwTx K mg) : FnOk P w K mg base CX0 1 f fd ["program", "work"] (spStmOf K) := by
  refine F.ok sc_statement_of (fun vs H Q E h => ?_) (fun cdv A outer s H vs Q E hr h => ?_)
  · obtain ⟨v, ls, tw, w3, j, q, l, s, rfl, _⟩ := h
    rfl
  · obtain ⟨v, ls, tw, w3, j, q, l, s, rfl, ⟨p, xs, ys, rfl, ⟨dx, lt, at_, dk, hp, hlt, hat⟩, fa⟩, htw, hj, hq, hl, hs, k⟩ := h
    refine ⟨_, PSs.nox (pss_one (ps_ret (pe_ix (ix_tupK (K := K) rfl) (pe_fld (pe_ix (ix_tupK (K := K) rfl) (pe_fld (pv 0) rfl) (pe_ix (ix_tupK (K := K) rfl) (pv 1) pe_int (fun _ _ => rfl)) (fun _ _ => rfl)) rfl) (pe_ix (ix_tupK (K := K) rfl) (pv 1) pe_int (fun _ _ => rfl)) (fun _ _ => rfl)))), ?_⟩
    obtain ⟨vl, hvl, ob⟩ := fa.at' hl
    obtain ⟨pl, tl, ul, ss, rfl, ⟨dl, lo, hi, st, hpl, hlo, hhi, hst⟩, _, _, fs⟩ := ob
    obtain ⟨vs', hvs, obs⟩ := fs.at' hs
    exact ⟨_, rfl, p, _, dx, _, _, rfl, hp, T.clP, T.nPL, prf_l _ _ _, _, rfl, tw, _, _, _, rfl, rfl, SqT.of htw, at0, lt, _, _, _, rfl, rfl, hlt, (by rw [hj]; exact atI_nat hvl), pl, _, dl, _, _, rfl, hpl, T.clL, T.nSt, lp_tt _ _ _ _ _, _, rfl, tw, _, _, _, rfl, rfl, SqT.of htw, at2, st, _, _, _, rfl, rfl, hst, (by rw [hq]; exact atI_nat hvs), k _ obs⟩
end
end K26
set_option maxHeartbeats 4000000
namespace Z
open PySem PySem.Spec PyProof.Rows L2
section
variable {X Y : Cx} {pins : List (Addr × Obj)} {σ σ' : L2.St} {H H' : Hp} {s : Shared} {fp : List Addr} {vs : List Nat}
/-- a value is put under a key -/
theorem put_any {D : Addr} {y z : V} {u r : Value} {Q : Unit → Shared → Prop} {E : Value → Shared → Prop} (hu : X.A.units + 1 < cLine) (I : Inv X pins σ H s) (g : DPut H D y z H') (ry : RelV y u) (rz : RelV z r)
    (k : ∀ s', Inv X pins σ H' s' → Q () s') : wpAny (model X.prog X.w) X.A (dictSet D u r) Q E s := by
  rcases g with ⟨kvs, key, eD, rfl, few, rfl⟩ | ⟨kvs, key, b, eD, rfl, eb, few, rfl⟩
  · exact d_dictSet I eD few ry rz k
  · obtain rfl : u = Value.ref b := ry
    obtain ⟨_, nsys, xs, rel, isD⟩ := dt_of I.hok eD
    have len := Paired.length rel
    have more := length_putK kvs key z
    refine wpAny_dictSet_heap (hsz := by omega) (show X.A.units < cLine from Nat.lt_of_succ_lt hu) (key_of I.hok eb) isD fun h' isD' same => k _ ?_
    obtain ⟨o, es, ep, ho, c1, c2, c3, _, c4⟩ := isD'
    refine d_write I (by rw [eD]; exact True.intro) same ⟨o, ho⟩ ⟨by omega, nsys, _, (rel.put key eb rz).keeps fun c ys ec => ?_, o, es, ep, ho, c1, c2, c3, c4⟩
    rw [upd_ne fun e => ?_]
    · exact ec
    · rw [e, eD] at ec
      cases ec
/-- the block's own view of its iterator's objects -/
theorem blk_aside (hx : Y.ex = fp) (hp : Y.pn = []) (I : Inv Y [] σ H s) (no : ∀ b ∈ fp, H b = none) : ∀ b ∈ fp, FpOk Y [] H b := fun b hb => by
  have he : b ∈ Y.ex := by rw [hx]; exact hb
  obtain ⟨n1, n2⟩ := I.ok.exf b he
  exact ⟨no b hb, n1, I.ok.exfs b he, .inl he, n2, fun q z => by rw [hp] at z; cases z⟩
/-- a turn is over: the names of the block are wiped, the iterator stands as it was left -/
theorem blk_over {h : Heap} (I : Inv Y ([] ++ pinsAt fp h) σ' H s) (has : ∀ b ∈ fp, ∃ o, h.get? b = some o ∧ ∀ v, o.data ≠ .cell v) (hw : wipe σ' vs = wipe σ vs) :
    Inv Y [] (wipe σ vs) H s ∧ (∀ b ∈ fp, ∀ o, h.get? b = some o → s.heap.get? b = some o) ∧ ∀ b ∈ fp, H b = none := by
  have at_ : ∀ b ∈ fp, ∀ o, h.get? b = some o → s.heap.get? b = some o ∧ H b = none := fun b hb o e => by
    have z := I.pin (b, o) (List.mem_append.mpr (.inr (List.mem_append.mpr (.inr (mem_pinsAt hb e)))))
    exact ⟨z.1, z.2.1⟩
  refine ⟨I.unpinned.weak ?_ fun j v e => ?_, fun b hb o e => (at_ b hb o e).1, fun b hb => ?_⟩
  · rw [← hw, wipe_length]
  · rw [← hw] at e
    exact (wipe_some e).1
  · obtain ⟨o, e, _⟩ := has b hb
    exact (at_ b hb o e).2
end
/-- the new dict, of the kind that is wanted, at D -/
def tDcA (o0 : HO) (wi : TI) (g : TG) (tk tv : TE) (vs : List Nat) : TE := fun σ H Q => wi σ H fun J H1 => ∀ D, H1 D = none → ∃ W : Nat → Nat → Hp → Prop, (∃ m, W 0 m (upd H1 D o0)) ∧ ∀ i m H, W i m H →
  (J.stop i H ∧ Q (.ref D) H) ∨ (J.go i H ∧ ∃ N : Hp → Prop, (∀ H', N H' → ∃ m', m' < m ∧ W (i + 1) m' H') ∧ ∀ x H', J.yld i H x H' → g x (wipe σ vs) H' fun σ2 H2 => wipe σ2 vs = wipe σ vs ∧
    tk σ2 H2 fun y H3 => tv σ2 H3 fun z H4 => ∃ H5, DPut H4 D y z H5 ∧ N H5)
section
variable {X : Cx}
theorem pe_dcA {o0 : HO} {kx vx tg iter : Expr} {scope : Scope} {own : List (Str × Nat)} {pos : Pos} {wi : TI} {g : TG} {tk tv : TE} (h0 : o0 = .dT [] ∨ o0 = .dK []) (hu : X.A.units + 1 < cLine) (hc : X.calm = true) (hN : X.N.Nodup) (hi : PI X tg iter wi) (ok : BlkOk X.N X.env.scope scope own)
    (hg : ∀ (s : Shared) (H : Hp) (C : Addr) (cl : List (Str × Addr)) (fp : List Addr), PG (X.blk s H scope (compEnvC scope cl C X.env) fp) tg g)
    (hk : ∀ (s : Shared) (H : Hp) (C : Addr) (cl : List (Str × Addr)) (fp : List Addr), PE (X.blk s H scope (compEnvC scope cl C X.env) fp) kx tk)
    (hv : ∀ (s : Shared) (H : Hp) (C : Addr) (cl : List (Str × Addr)) (fp : List Addr), PE (X.blk s H scope (compEnvC scope cl C X.env) fp) vx tv) (hs : ∀ x, foldedSetIterable iter X.env x = pure x := by intro _; rfl) :
    PE X (.DictComp kx vx [⟨tg, iter, [], 0⟩] scope pos) (tDcA o0 wi g tk tv (own.map (·.2))) := by
  refine ⟨fun pins s σ H Q I h => ?_⟩
  rw [arm_eval_DictComp]
  have clo : ∀ y ∈ scope.names, y.2 = .free → ∃ c, X.env.cells.lookup y.1 = some c := fun y hy e => I.ok.has _ (ok.free y hy e)
  refine wpAny_comprehension_free rfl hs (closure_ok clo) ok.kind (fun y hy e => by rw [ok.uniq y hy, e]) (thn (hi.run pins s σ H _ I h) fun _ _ hx => thn hx fun itv s1 come => ?_)
  obtain ⟨it, fp, tn, J, H1, rfl, I1, T, st1, f1, start⟩ := come
  -- the dict is laid at D, the block's own dict of names behind it
  refine wpAny_newObj_type (newEnv_comp ?_)
  obtain ⟨D, hD⟩ : ∃ D, D = s1.heap.objs.size := ⟨_, rfl⟩
  obtain ⟨W, ⟨m0, w0⟩, turn⟩ := start D (I1.hok.fresh (Nat.le_of_eq hD.symm))
  obtain ⟨s2, hs2⟩ : ∃ s2 : Shared, s2 = { s1 with heap := s1.heap.push { cls := .type "dict", data := .dict #[] } } := ⟨_, rfl⟩
  have grow : ∀ b o, s1.heap.get? b = some o → s2.heap.get? b = some o := fun b o e => by
    rw [hs2]
    exact Heap.get?_push_of_some _ e
  have size2 : s1.heap.objs.size < s2.heap.objs.size := by
    rw [hs2]
    show _ < (s1.heap.push _).objs.size
    rw [Heap.size_push]
    exact Nat.lt_succ_self _
  have I2 : Inv X pins σ (upd H1 D o0) s2 := by
    rw [hs2, hD]
    refine I1.laid (t' := s1.toks) (fun b o e => Heap.get?_push_of_some _ e) (Nat.le_refl _) ?_
    rcases h0 with rfl | rfl
    · exact dt_empty s1.heap I1.big
    · exact dk_empty s1.heap I1.big
  have young : ∀ b ∈ fp, b < s1.heap.objs.size := fun b hb => by
    obtain ⟨o, e, _⟩ := T.obj 0 _ st1 b hb
    exact Heap.lt_size e
  have f2 : ∀ b ∈ fp, FpOk X pins (upd H1 D o0) b ∧ b < s2.heap.objs.size := fun b hb => by
    have lt := young b hb
    refine ⟨⟨?_, (f1 b hb).2⟩, Nat.lt_trans lt size2⟩
    rw [upd_ne (by rw [hD]; exact Nat.ne_of_lt lt)]
    exact (f1 b hb).1
  have I3 := block_start I2 ok hN f2
  rw [← hD, ← hs2]
  obtain ⟨H2, hH2⟩ : ∃ L, L = upd H1 D o0 := ⟨_, rfl⟩
  rw [← hH2] at I2 I3 w0 f2
  obtain ⟨C, hC⟩ : ∃ C, C = s2.heap.objs.size := ⟨_, rfl⟩
  obtain ⟨cl, hcl⟩ : ∃ cl, cl = cellsFrom (s2.heap.objs.size + 1) scope.names (cloFrom X.env.cells scope.names []) := ⟨_, rfl⟩
  obtain ⟨s3, hs3⟩ : ∃ s3 : Shared, s3 = { s2 with heap := pushCells (s2.heap.push { cls := .type "dict", data := .dict #[] }) scope.names } := ⟨_, rfl⟩
  rw [← hcl, ← hC, ← hs3] at I3
  obtain ⟨Y, hY⟩ : ∃ Y, Y = X.blk s2 H2 scope (compEnvC scope cl C X.env) fp := ⟨_, rfl⟩
  have pg := hg s2 H2 C cl fp
  have pk := hk s2 H2 C cl fp
  have pv := hv s2 H2 C cl fp
  rw [← hY] at I3 pg pk pv
  have st3 : tn 0 s3.heap := T.keep 0 _ _ st1 fun b _ o e => by
    rw [hs3]
    exact pushCells_keeps _ _ _ _ (Heap.get?_push_of_some _ (grow b o e))
  have none2 : ∀ b ∈ fp, H2 b = none := fun b hb => (f2 b hb).1.1
  have done : codeAny (model X.prog X.w) X.A (.compLoop (.DictComp kx vx [⟨tg, iter, [], 0⟩] scope pos) 0 (.ref it) (.ref D) (compEnvC scope cl C X.env)) (compPost (model X.prog X.w) X.A X.xe none (EP X pins σ Q) (.ref D) C) s3 := by
    refine compLoop_anyD (fun n s => ∃ i H, Inv Y [] (wipe σ (own.map (·.2))) H s ∧ tn i s.heap ∧ (∀ b ∈ fp, H b = none) ∧ W i n H) ?_ m0 ⟨0, H2, I3, st3, none2, w0⟩
    rintro n s4 ⟨i, H4, I4, st4, no4, w4⟩
    have as4 := blk_aside (by rw [hY]) (by rw [hY]) I4 no4
    rcases turn i n H4 w4 with ⟨stop, q⟩ | ⟨go, N, next, body⟩
    · -- back in the frame
      subst hY
      refine thnF (T.done (X.blk s2 H2 scope (compEnvC scope cl C X.env) fp) rfl rfl rfl hc i [] s4 _ H4 (fun _ _ => False) I4 as4 st4 stop) fun r s5 ⟨e, I5⟩ => ?_
      subst e
      have I6 : Inv X pins σ H4 s5 := I2.call' (ch := fp) I5.os I5.base I5.hok I5.bare fun b hb => by
        obtain ⟨⟨_, a1, _, a2, a3, a4⟩, _⟩ := f2 b hb
        exact ⟨a2, a1, a3, a4⟩
      obtain ⟨m, loc, _⟩ := I5.loc
      have noC : H4 C = none := I5.free
      obtain ⟨_, b1, b2, b3, b4, b5⟩ := I2.fpOk (Nat.le_of_eq hC.symm) noC
      exact ⟨m, loc, fun h' same => ⟨.ref D, H4, I6.turned (t' := s5.toks) (fun b o nb e => (same.2 b nb).trans e) noC b1 b3 b4 b5, rfl, q⟩⟩
    · subst hY
      refine thnF (T.item (X.blk s2 H2 scope (compEnvC scope cl C X.env) fp) rfl rfl rfl hc i [] s4 _ H4 (fun _ _ => False) I4 as4 st4 go) fun r s5 ⟨u, e, q5⟩ => ?_
      subst e
      refine thnF q5 fun _ s6 ⟨x, H6, I6, rx, y6, st6, no6⟩ => ?_
      have has6 := T.obj _ _ st6
      refine thnF (pg.run _ s6 _ H6 x u _ (I6.pinned (blk_aside rfl rfl I6 no6) has6) rx (body x H6 y6)) fun _ s7 ⟨σ7, H7, I7, w7, q7⟩ => ?_
      refine wpAny_pure ?_
      rw [if_pos rfl]
      refine thnF (pk.run _ s7 σ7 H7 _ I7 q7) fun kv s8 ⟨yk, H8, I8, rk, q8⟩ => ?_
      refine thnF (pv.run _ s8 σ7 H8 _ I8 q8) fun vv s9 ⟨yv, H9, I9, rv, H10, put, nx⟩ => ?_
      refine put_any (X := X.blk s2 H2 scope (compEnvC scope cl C X.env) fp) hu I9 put rk rv fun s10 I10 => ?_
      obtain ⟨I11, st10, no10⟩ := blk_over I10 has6 w7
      obtain ⟨m', lt, w'⟩ := next H10 nx
      exact ⟨m', lt, i + 1, H10, I11, T.keep _ _ _ st6 st10, no10, w'⟩
  have go2 := codeAny_compStart_dict done (T.self X.A 0 s3 (fun it' s' => codeAny (model X.prog X.w) X.A (.compLoop (.DictComp kx vx [⟨tg, iter, [], 0⟩] scope pos) 0 it' (.ref D) (compEnvC scope cl C X.env)) (compPost (model X.prog X.w) X.A X.xe none (EP X pins σ Q) (.ref D) C) s') _ st3 done)
  subst hcl hC hs3 hs2 hD
  exact go2
/-- over any walk: Pv by the turn and the heap -/
theorem dcA_it {J : It} {n : Nat} {G : Hp → Prop} {Y : Nat → Hp → V → Hp → Prop} (wk : Walk J n G Y) {o0 : HO} {g : TG} {tk tv : TE} {vs : List Nat} {σ : L2.St} {H1 : Hp} {D : Addr} {Qd : Hp → Prop} (Pv : Nat → Hp → Prop) (h0 : Pv 0 (upd H1 D o0)) (hG : ∀ i H, i ≤ n → Pv i H → G H)
    (turn : ∀ i x H H', i < n → Pv i H → Y i H x H' → g x (wipe σ vs) H' fun σ2 H2 => wipe σ2 vs = wipe σ vs ∧ tk σ2 H2 fun y H3 => tv σ2 H3 fun z H4 => ∃ H5, DPut H4 D y z H5 ∧ Pv (i + 1) H5) (end_ : ∀ H, Pv n H → Qd H) :
    ∃ W : Nat → Nat → Hp → Prop, (∃ m, W 0 m (upd H1 D o0)) ∧ ∀ i m H, W i m H →
      (J.stop i H ∧ Qd H) ∨ (J.go i H ∧ ∃ N : Hp → Prop, (∀ H', N H' → ∃ m', m' < m ∧ W (i + 1) m' H') ∧ ∀ x H', J.yld i H x H' → g x (wipe σ vs) H' fun σ2 H2 => wipe σ2 vs = wipe σ vs ∧
        tk σ2 H2 fun y H3 => tv σ2 H3 fun z H4 => ∃ H5, DPut H4 D y z H5 ∧ N H5) := by
  refine ⟨fun i m H => i + m = n ∧ Pv i H, ⟨n, Nat.zero_add n, h0⟩, fun i m H ⟨e, p⟩ => ?_⟩
  cases m with
  | zero =>
    obtain rfl : i = n := e
    exact .inl ⟨wk.stops H (hG i H (Nat.le_refl i) p), end_ H p⟩
  | succ m =>
    have lt : i < n := by omega
    have q := hG i H (Nat.le_of_lt lt) p
    exact .inr ⟨wk.goes i H lt q, Pv (i + 1), fun H' p' => ⟨m, Nat.lt_succ_self m, by omega, p'⟩, fun x H' y => turn i x H H' lt p (wk.yields i H x H' lt q y)⟩
end
end Z
set_option maxHeartbeats 4000000
namespace K26
open PySem PySem.Spec PyProof.Rows L2 Z
theorem pg_tupK {X : Cx} {K : PySem.W.Frag} {es : List Expr} {k : Nat} {pos : Pos} {t : TGs} {n : Nat} (hK : X.K = K) (hc : X.calm = true) (h : PGs X es t)
    (hn : (assignEach es X.env).length = n := by rfl) (hst : (assignEach es X.env).findIdx? (·.1) = none := by rfl) : PG X (.Tuple es k pos) (gTup K n t) := hK ▸ pg_tup hc h hn hst
section
variable {α : Type} [DecidableEq α]
/-- the last place at which a stands, the list from its end -/
def lastR : List α → α → Option Nat
  | [], _ => none
  | b :: r, a => if b = a then some r.length else lastR r a
def lastIx (l : List α) (a : α) : Option Nat := lastR l.reverse a
theorem lastIx_snoc {l : List α} {a b : α} : lastIx (l ++ [b]) a = if b = a then some l.length else lastIx l a := by
  unfold lastIx
  rw [List.reverse_append]
  show (if b = a then some l.reverse.length else lastR l.reverse a) = _
  rw [List.length_reverse]
theorem lastIx_take {l : List α} {i : Nat} {a b : α} (h : l[i]? = some b) : lastIx (l.take (i + 1)) a = if b = a then some i else lastIx (l.take i) a := by
  have hi := (List.getElem?_eq_some_iff.mp h).1
  rw [List.take_add_one, h]
  show lastIx (l.take i ++ [b]) a = _
  rw [lastIx_snoc, List.length_take, Nat.min_eq_left (Nat.le_of_lt hi)]
theorem lastR_at : ∀ {l : List α} {a : α} {i : Nat}, lastR l a = some i → i < l.length ∧ l.reverse[i]? = some a
  | b :: r, a, i, h => by
    unfold lastR at h
    by_cases e : b = a
    · rw [if_pos e] at h
      cases h
      refine ⟨Nat.lt_succ_self _, ?_⟩
      rw [List.reverse_cons, List.getElem?_append_right (by rw [List.length_reverse]; exact Nat.le_refl _), List.length_reverse, Nat.sub_self, e]
      rfl
    · rw [if_neg e] at h
      obtain ⟨h1, h2⟩ := lastR_at h
      refine ⟨Nat.lt_succ_of_lt h1, ?_⟩
      rw [List.reverse_cons, List.getElem?_append_left (by rw [List.length_reverse]; exact h1)]
      exact h2
theorem lastIx_at {l : List α} {a : α} {i : Nat} (h : lastIx l a = some i) : l[i]? = some a := by
  have := (lastR_at h).2
  rwa [List.reverse_reverse] at this
theorem lastR_none : ∀ {l : List α} {a : α}, lastR l a = none → a ∉ l
  | [], _, _ => fun z => by cases z
  | b :: r, a, h => by
    unfold lastR at h
    by_cases e : b = a
    · rw [if_pos e] at h
      cases h
    · rw [if_neg e] at h
      intro z
      rcases List.mem_cons.mp z with z | z
      · exact e z.symm
      · exact lastR_none h z
theorem lastIx_none {l : List α} {a : α} (h : lastIx l a = none) : a ∉ l := fun z => lastR_none h (List.mem_reverse.mpr z)
end
def wK (w : W3) : List Key := [Sum.inl w.1, Sum.inl w.2.1, Sum.inl w.2.2]
theorem wK_inj {a b : W3} (h : wK a = wK b) : a = b := by
  obtain ⟨x, y, z⟩ := a
  obtain ⟨u, v, w⟩ := b
  unfold wK at h
  simp only [List.cons.injEq, Sum.inl.injEq, and_true] at h
  rw [h.1, h.2.1, h.2.2]
theorem dt_c {H : Hp} {v : V} {c : Cell} (h : DT H v (cD c)) : ∃ t, v = .ref t ∧ H t = some (.tup [.str c.1, .int c.2]) := by
  cases h with
  | tup e r =>
    cases r with
    | cons r1 r =>
      cases r with
      | cons r2 r =>
        cases r
        cases r1
        cases r2
        exact ⟨_, rfl, e⟩
abbrev CLg (K : PySem.W.Frag) : Addr := He.ga K "Log"
def lgf (w c t n r : Addr) : List (Str × V) := putF "writers" (.ref r) (putF "numbers" (.ref n) (putF "takes" (.ref t) (putF "writes" (.ref c) (putF "works" (.ref w) []))))
structure LgTx (K : PySem.W.Frag) : Prop where
  cl : Cls K (CLg K)
  nW : NoAttr K (CLg K) "works"
  nC : NoAttr K (CLg K) "writes"
  nT : NoAttr K (CLg K) "takes"
  nN : NoAttr K (CLg K) "numbers"
  nR : NoAttr K (CLg K) "writers"
/-- where each work stands, by the dict -/
def NumOk (nk : List (List Key × V)) (W : List W3) : Prop := ∀ w : W3, valV nk (wK w) = (lastIx W w).map fun i => V.int (i : Nat)
/-- the last writer of each cell, by the dict -/
def WrOk (wk : List (List Key × V)) (ws : List V) (C : List Cell) : Prop := ∀ c : Cell, valV wk (cK c) = (lastIx C c).bind fun i => ws[i]?
def spLgI (K : PySem.W.Frag) : Sp := fun vs H Q _ => ∃ (p dx wt ct tt : Addr) (ws cs : List V) (W : List W3) (C : List Cell), vs = [.ref p, .ref wt, .ref ct, .ref tt] ∧ H p = some (.ins (CLg K) dx []) ∧ H wt = some (.tup ws) ∧ H ct = some (.tup cs) ∧
  DTs H ws (W.map wD) ∧ DTs H cs (C.map cD) ∧ W.length = C.length ∧ W.length ≤ 200000 ∧
  ∀ (nd wd : Addr) (nk wk : List (List Key × V)) (H' : Hp), H' p = some (.ins (CLg K) dx (lgf wt ct tt nd wd)) → H' nd = some (.dT nk) → NumOk nk W → H' wd = some (.dT wk) → WrOk wk ws C → Keep p H H' → Q .non H'
section
variable {P : Program} {w : World} {K : PySem.W.Frag} {mg : Str → Option Value} {base : Heap}
theorem scLog__init__ : FnScope ["self", "works", "writes", "takes", "at", "work", "write"] ["self", "works", "writes", "takes"] (defScope iLog__init__) := ⟨rfl, rfl, rfl, by decide +kernel, rfl, by decide +kernel, by decide +kernel⟩
theorem ok_LgI {fd : FuncData} (F : FnM K "Log" "__init__" "Log.__init__" iLog__init__ fd) (T : LwTx K mg) (G : LgTx K) : FnOk P w K mg base (L2.CX P w) 1 (He.ma K (CLg K) "__init__") fd ["self", "works", "writes", "takes"] (spLgI K) := by
  refine F.ok scLog__init__ (fun vs H Q E h => ?_) (fun cdv A outer s H vs Q E hr h => ?_)
  · obtain ⟨p, dx, wt, ct, tt, ws, cs, W, C, rfl, _⟩ := h
    rfl
  · obtain ⟨p, dx, wt, ct, tt, ws, cs, W, C, rfl, hp, hwt, hct, dw, dc, lWC, few, k⟩ := h
    have hu := hu_of hr
    refine ⟨_, (pss_cons (ps_fld (pv 0) (pv 1) rfl)
      (pss_cons (ps_fld (pv 0) (pv 2) rfl)
      (pss_cons (ps_fld (pv 0) (pv 3) rfl)
      (pss_cons (ps_fld (pv 0) (pe_dcA (o0 := .dT []) (own := [("at", 4), ("work", 5)]) (.inl rfl) hu rfl scLog__init__.nd (pi_enumT (by rfl) T.enumerate (pa_cons (pv 1) pa_nil)) (blkOk_by (N := ["self", "works", "writes", "takes", "at", "work", "write"]) (sc := defScope iLog__init__) (by decide +kernel)) (fun _ _ _ _ _ => (pg_tupK (K := K) (n := 2) rfl rfl (pgs_cons (pg_name (i := 4) scLog__init__.nd rfl (.inl rfl)) (pgs_cons (pg_name (i := 5) scLog__init__.nd rfl (.inl rfl)) pgs_nil)))) (fun _ _ _ _ _ => (pv 5)) (fun _ _ _ _ _ => (pv 4))) rfl)
      (pss_one (ps_fld (pv 0) (pe_dcA (o0 := .dT []) (own := [("at", 4), ("write", 6)]) (.inl rfl) hu rfl scLog__init__.nd (pi_enumT (by rfl) T.enumerate (pa_cons (pv 2) pa_nil)) (blkOk_by (N := ["self", "works", "writes", "takes", "at", "work", "write"]) (sc := defScope iLog__init__) (by decide +kernel)) (fun _ _ _ _ _ => (pg_tupK (K := K) (n := 2) rfl rfl (pgs_cons (pg_name (i := 4) scLog__init__.nd rfl (.inl rfl)) (pgs_cons (pg_name (i := 6) scLog__init__.nd rfl (.inl rfl)) pgs_nil)))) (fun _ _ _ _ _ => (pv 6)) (fun _ _ _ _ _ => (pe_ix (ix_tupK (K := K) rfl) (pv 1) (pv 4) (fun _ _ => rfl)))) rfl)))))), ?_⟩
    refine ⟨_, rfl, _, rfl, p, _, dx, [], rfl, hp, G.cl, G.nW, (by show 0 < 1000; decide), ?_⟩
    refine ⟨_, rfl, _, rfl, p, _, dx, _, rfl, upd_same, G.cl, G.nC, (by show 1 < 1000; decide), ?_⟩
    refine ⟨_, rfl, _, rfl, p, _, dx, _, rfl, upd_same, G.cl, G.nT, (by show 2 < 1000; decide), ?_⟩
    obtain ⟨H3, eH3⟩ : ∃ L, L = upd (upd (upd H p (.ins (CLg K) dx (putF "works" (.ref wt) []))) p (.ins (CLg K) dx (putF "writes" (.ref ct) (putF "works" (.ref wt) [])))) p (.ins (CLg K) dx (putF "takes" (.ref tt) (putF "writes" (.ref ct) (putF "works" (.ref wt) [])))) := ⟨_, rfl⟩
    have k03 : Keep p H H3 := fun b o nb e => by
      rw [eH3, upd_ne nb, upd_ne nb, upd_ne nb]
      exact e
    have hp3 : H3 p = some (.ins (CLg K) dx (putF "takes" (.ref tt) (putF "writes" (.ref ct) (putF "works" (.ref wt) [])))) := by rw [eH3]; exact upd_same
    have ts3 : TSame H H3 := fun b xs e => k03 _ _ (fun z => by rw [z, hp] at e; cases e) e
    rw [← eH3]
    have hwt3 := ts3 _ _ hwt
    have hct3 := ts3 _ _ hct
    refine ⟨_, rfl, wt, ws, rfl, SqT.of hwt3, fun D hD => ?_⟩
    have sD := Same.new (.dT []) (Same.refl H3) hD
    have lws : ws.length = W.length := by rw [dw.len, List.length_map]
    refine dcA_it (walk_enumT (K := K) (a := wt) (xs := ws)) (fun i Hc => ∃ nk : List (List Key × V), Hc D = some (.dT nk) ∧ NumOk nk (W.take i) ∧ nk.length ≤ i ∧ Same H3 Hc)
      ⟨[], upd_same, fun w => rfl, Nat.le_refl _, sD⟩ (fun i Hc _ z => by
        obtain ⟨_, _, _, _, s⟩ := z
        exact SqT.of (s _ _ hwt3)) ?_ ?_
    · rintro i x Hc H' lt ⟨nk, eD, ok, ln, sc⟩ ⟨U, x1, y1, rfl, hU, rfl, ex, ey⟩
      cases ex
      obtain ⟨w0, hw0, dw0⟩ := (dw.to (ts3.trans (.of sc))).map' ey
      obtain ⟨tw, rfl, htw⟩ := dt_w dw0
      have sU := Same.new (.tup [.int (i : Int), .ref tw]) (Same.refl Hc) hU
      refine ⟨U, _, rfl, SqT.of upd_same, rfl, _, _, rfl, _, _, rfl, rfl, rfl, ?_⟩
      refine ⟨_, rfl, _, rfl, _, DPut.t (sU _ _ eD) (k := wK w0) (sU _ _ htw) (sz1m _ (by omega)), _, upd_same, fun w1 => ?_, Nat.le_trans (length_putK _ _ _) (by omega), fun b o e => ?_⟩
      · rw [valV_put, ok w1, lastIx_take hw0]
        by_cases e : w0 = w1
        · rw [e, if_pos rfl, if_pos rfl]
          rfl
        · rw [if_neg (fun z => e (wK_inj z).symm), if_neg e]
      · rw [upd_ne (ne_of_none e hD)]
        exact sU _ _ (sc b o e)
    · rintro H4 ⟨nk, eD4, okN, _, s4⟩
      rw [lws, List.take_length] at okN
      have hp4 := s4 _ _ hp3
      refine ⟨_, rfl, p, _, dx, _, rfl, hp4, G.cl, G.nN, (by show 3 < 1000; decide), ?_⟩
      obtain ⟨H5, eH5⟩ : ∃ L, L = upd H4 p (.ins (CLg K) dx (putF "numbers" (.ref D) (putF "takes" (.ref tt) (putF "writes" (.ref ct) (putF "works" (.ref wt) []))))) := ⟨_, rfl⟩
      rw [← eH5]
      have npD : p ≠ D := ne_of_none hp3 hD
      have k45 : Keep p H4 H5 := fun b o nb e => by
        rw [eH5, upd_ne nb]
        exact e
      have k05 : Keep p H H5 := fun b o nb e => k45 b o nb (s4 _ _ (k03 b o nb e))
      have hp5 : H5 p = some (.ins (CLg K) dx (putF "numbers" (.ref D) (putF "takes" (.ref tt) (putF "writes" (.ref ct) (putF "works" (.ref wt) []))))) := by rw [eH5]; exact upd_same
      have ts5 : TSame H H5 := fun b xs e => k05 _ _ (fun z => by rw [z, hp] at e; cases e) e
      have eD5 : H5 D = some (.dT nk) := k45 _ _ npD.symm eD4
      have hwt5 := ts5 _ _ hwt
      have hct5 := ts5 _ _ hct
      refine ⟨_, rfl, ct, cs, rfl, SqT.of hct5, fun D2 hD2 => ?_⟩
      have sD2 := Same.new (.dT []) (Same.refl H5) hD2
      have lcs : cs.length = C.length := by rw [dc.len, List.length_map]
      refine dcA_it (walk_enumT (K := K) (a := ct) (xs := cs)) (fun i Hc => ∃ wk : List (List Key × V), Hc D2 = some (.dT wk) ∧ WrOk wk ws (C.take i) ∧ wk.length ≤ i ∧ Same H5 Hc)
        ⟨[], upd_same, fun w => rfl, Nat.le_refl _, sD2⟩ (fun i Hc _ z => by
          obtain ⟨_, _, _, _, s⟩ := z
          exact SqT.of (s _ _ hct5)) ?_ ?_
      · rintro i x Hc H' lt ⟨wk, eD2, ok, ln, sc⟩ ⟨U, x1, y1, rfl, hU, rfl, ex, ey⟩
        cases ex
        obtain ⟨c0, hc0, dc0⟩ := (dc.to (ts5.trans (.of sc))).map' ey
        obtain ⟨tc, rfl, htc⟩ := dt_c dc0
        have sU := Same.new (.tup [.int (i : Int), .ref tc]) (Same.refl Hc) hU
        have wi : ∃ v, ws[i]? = some v := ⟨_, List.getElem?_eq_getElem (by omega)⟩
        obtain ⟨v, hv⟩ := wi
        refine ⟨U, _, rfl, SqT.of upd_same, rfl, _, _, rfl, _, _, rfl, rfl, rfl, ?_⟩
        refine ⟨_, rfl, _, rfl, _, rfl, wt, ws, _, v, rfl, rfl, SqT.of (sU _ _ (sc _ _ hwt5)), atI_nat hv, _, DPut.t (sU _ _ eD2) (k := cK c0) (sU _ _ htc) (sz1m _ (by omega)), _, upd_same, fun c1 => ?_, Nat.le_trans (length_putK _ _ _) (by omega), fun b o e => ?_⟩
        · rw [valV_put, ok c1, lastIx_take hc0]
          by_cases e : c0 = c1
          · rw [e, if_pos rfl, if_pos rfl]
            exact hv.symm
          · rw [if_neg (fun z => e (cK_inj z).symm), if_neg e]
        · rw [upd_ne (ne_of_none e hD2)]
          exact sU _ _ (sc b o e)
      · rintro H6 ⟨wk, eD6, okW, _, s6⟩
        rw [lcs, List.take_length] at okW
        have npD2 : p ≠ D2 := ne_of_none hp5 hD2
        refine ⟨_, rfl, p, _, dx, _, rfl, s6 _ _ hp5, G.cl, G.nR, (by show 4 < 1000; decide), ?_⟩
        refine k D D2 nk wk _ upd_same ?_ okN ?_ okW fun b o nb e => ?_
        · rw [upd_ne npD.symm]
          exact s6 _ _ eD5
        · rw [upd_ne npD2.symm]
          exact eD6
        · rw [upd_ne nb]
          exact s6 _ _ (k05 b o nb e)
end
end K26
set_option maxHeartbeats 4000000
namespace K26
open PySem PySem.Spec PyProof.Rows L2 Z
/-- a log: what it was made of, and its two dicts -/
def LogOb (K : PySem.W.Frag) (H : Hp) (p wt ct tt : Addr) (ws : List V) (W : List W3) (C : List Cell) : Prop := ∃ (dx nd wd : Addr) (nk wk : List (List Key × V)), H p = some (.ins (CLg K) dx (lgf wt ct tt nd wd)) ∧
  Rd H nd (.dT nk) ∧ NumOk nk W ∧ Rd H wd (.dT wk) ∧ WrOk wk ws C
def rLg (K : PySem.W.Frag) (vs : List V) (H : Hp) (Q : VK) : Prop := ∃ (wt ct tt : Addr) (ws cs : List V) (W : List W3) (C : List Cell), vs = [.ref wt, .ref ct, .ref tt] ∧ H wt = some (.tup ws) ∧ H ct = some (.tup cs) ∧
  DTs H ws (W.map wD) ∧ DTs H cs (C.map cD) ∧ W.length = C.length ∧ W.length ≤ 200000 ∧ ∀ p H', Same H H' → LogOb K H' p wt ct tt ws W C → Q (.ref p) H'
theorem rLg_of {K : PySem.W.Frag} {H : Hp} {Q : VK} {E : XK} {p dx : Addr} {ws : List V} (h : rLg K ws H Q) (np : H p = none) (nd : H dx = none) (ne : dx ≠ p) : spLgI K (.ref p :: ws) (upd (upd H dx (.own p)) p (.ins (CLg K) dx [])) (fun v H2 => v = .non ∧ Q (.ref p) H2) E := by
  obtain ⟨wt, ct, tt, xs, cs, W, C, rfl, h1, h2, d1, d2, l1, l2, kk⟩ := h
  have s := new_same (C := CLg K) np nd ne
  exact ⟨p, dx, wt, ct, tt, xs, cs, W, C, rfl, upd_same, s _ _ h1, s _ _ h2, d1.to (.of s), d2.to (.of s), l1, l2, fun a b nk wk H' hp ha hn hb hw kp => ⟨rfl, kk p H' (Same.made (Same.refl H) np nd kp) ⟨dx, a, b, nk, wk, hp, .inl ha, hn, .inl hb, hw⟩⟩⟩
def MkLg (P : Program) (w : World) (K : PySem.W.Frag) (mg : Str → Option Value) (base : Heap) : Prop := ∃ f fd, Mc P w K mg base 1 "Log" f fd ["self", "works", "writes", "takes"] (spLgI K) ∧ Binds K fd ["self", "works", "writes", "takes"] []
theorem pe_LgP {X : Cx} {K : PySem.W.Frag} {k : Nat} {E : L2.St → XK} {p pos : Pos} {e : Expr} {es : List Expr} {t : TA} (M : MkLg X.prog X.w K X.mg X.base) (hK : X.K = K) (hr : Room k X.A) (hx : ∀ σ, PassesAt (L2.CX X.prog X.w) X σ (E σ)) (ha : PA X (e :: es) t) (hjk : 2 ≤ k := by decide) (hg : Gl X "Log" := by rfl)
    (he : starEach (e :: es) X.env = (false, eval e X.env) :: starEach es X.env := by rfl) (hpl : (backTo pos (starEach es X.env)).any (·.1) = false := by rfl) :
    PE X (.Call (.Name "Log" p) (e :: es) [] pos) (fun σ H Q => t σ H fun vs H1 => rLg K vs H1 Q) := by
  obtain ⟨f, fd, M, b⟩ := M
  exact pe_mkR (R := fun vs H1 Q E => rLg K vs H1 Q) M hK b .nil (fun q nx nd ne => by rw [List.append_nil]; exact rLg_of q nx nd ne) hr hx ha hjk hg (by decide) he hpl
/-- the log that a run hands back -/
def LogAt (K : PySem.W.Frag) (H : Hp) (p : Addr) (W : List W3) (Es : List Ent) : Prop := ∃ (wt ct tt : Addr) (ws cs ts : List V), LogOb K H p wt ct tt ws W (Es.map fun e => e.2.1) ∧ H wt = some (.tup ws) ∧ DTs H ws (W.map wD) ∧
  H ct = some (.tup cs) ∧ DTs H cs (Es.map fun e => cD e.2.1) ∧ H tt = some (.tup ts) ∧ DTs H ts (Es.map fun e => .tuple (e.2.2.map tkD))
def spLogP (K : PySem.W.Frag) : Sp := fun vs H Q E => ∃ (v nv : V) (ls : List LpM), vs = [v, nv] ∧ PrOb K H v ls ∧ ls.length ≤ 3 ∧ (∀ l ∈ ls, LpOk l) ∧
  ((IntV H nv false ∧ RzV K "BadSize" ["n"] [nv] H E) ∨ ∃ n : Int, nv = .int n ∧ (¬ (0 ≤ n ∧ n ≤ TOP) → RzV K "BadSize" ["n"] [.int n] H E) ∧
    (0 ≤ n ∧ n ≤ TOP → (20000 < tot ls n → RzV K "TooLong" ["many"] [.int (tot ls n)] H E) ∧ (tot ls n ≤ 20000 → ∀ p H', Same H H' → LogAt K H' p (works ls n) (lg ls n (works ls n)).1 → Q (.ref p) H')))
theorem lpN_tot {ls : List LpM} {n : Int} {l : LpM} (h : l ∈ ls) : lpN l n ≤ tot ls n := by
  unfold tot
  induction ls with
  | nil => cases h
  | cons a ls ih =>
    rw [List.map_cons, List.sum_cons]
    have pos : 0 ≤ (ls.map fun l => lpN l n).sum := by
      clear ih h
      induction ls with
      | nil => exact Int.le_refl _
      | cons b ls ih =>
        rw [List.map_cons, List.sum_cons]
        have := lpN_nn (l := b) (n := n)
        omega
    rcases List.mem_cons.mp h with rfl | h
    · omega
    · have := ih h
      have := lpN_nn (l := a) (n := n)
      omega
/-- the log's rows are of the works, one by one -/
theorem lg_fst {ls : List LpM} {n : Int} : ∀ {i : Nat}, i ≤ (works ls n).length → (lg ls n ((works ls n).take i)).1.map (·.1) = (works ls n).take i
  | 0, _ => rfl
  | i + 1, h => by
    have hw := List.getElem?_eq_getElem (l := works ls n) (i := i) h
    obtain ⟨j, q, l, s, hj, hq, hl, _, hs⟩ := works_mem (List.mem_of_getElem? hw)
    rw [lg_succ hw (stAt_of hj hq hl hs), List.take_add_one, hw, List.map_append, lg_fst (Nat.le_of_lt h)]
    rfl
theorem lg_works {ls : List LpM} {n : Int} : (lg ls n (works ls n)).1.map (·.1) = works ls n := by
  have h := lg_fst (ls := ls) (n := n) (i := (works ls n).length) (Nat.le_refl _)
  rwa [List.take_length] at h
theorem works_few {ls : List LpM} {n : Int} (ok : ∀ l ∈ ls, LpOk l) (l3 : ls.length ≤ 3) (few : Few ls n) : (works ls n).length ≤ 180000 := by
  have h := wA_few (m := ls.length) ok few
  unfold works
  omega
theorem rd_cell {r : RdM} {H : Hp} {K : PySem.W.Frag} {v : V} (h : RdOb K H v r) (c n : Int) : ∃ p dr q a b e d, v = .ref p ∧ H p = some (.ins (CRd K) dr (rdf r.x q r.f)) ∧ PlcAt K H q a b e d ∧ Sm a ∧ Sm b ∧ 0 < d ∧ d < 1073741824 ∧ (a * c + b * n + e).fdiv d = (rdCell r c n).2 := by
  obtain ⟨p, a, b, e, d, rfl, ⟨dr, q, h1, h2⟩, a0, a1, b0, b1, d0, d1, k⟩ := h
  exact ⟨p, dr, q, a, b, e, d, rfl, h1, h2, sm_of (by omega) (by omega), sm_of (by omega) (by omega), by omega, by omega, k c n⟩
section
variable {P : Program} {w : World} {K : PySem.W.Frag} {mg : Str → Option Value} {base : Heap}
theorem sc_log_program : FnScope ["program", "n", "works", "writes", "takes", "last", "work", "statement", "places", "read", "array", "cell", "write"] ["program", "n"] (defScope s_log_program) := ⟨rfl, rfl, rfl, by decide +kernel, rfl, by decide +kernel, by decide +kernel⟩
theorem ok_logP {f : Addr} {fd : FuncData} (F : FnP K "log_program" s_log_program f fd) (T : LwTx K mg) (C : PC P w K mg base) (MLg : MkLg P w K mg base) (dCkRun : Dx P w K mg base 5 "check_run" ["program", "n"] (spCkRun K)) (dWorksOf : Dn P w K mg base 5 "works_of" ["program", "n"] (spWorksOf K)) (dStmOf : Dn P w K mg base 1 "statement_of" ["program", "work"] (spStmOf K)) :
    FnOk P w K mg base (L2.CX P w) 6 f fd ["program", "n"] (spLogP K) := by
  refine F.ok sc_log_program (fun vs H Q E h => ?_) (fun cdv A outer s H vs Q E hr h => ?_)
  · obtain ⟨v, nv, ls, rfl, _⟩ := h
    rfl
  · obtain ⟨v, nv, ls, rfl, ob, l3, ok, k⟩ := h
    have hu := hu_of hr
    obtain ⟨fdc, Fc, hbc, cc⟩ := C.call
    obtain ⟨fds, Fs, hbs, cs⟩ := C.calS
    refine ⟨_, (pss_cons (ps_expr (pe_dx (K := K) dCkRun rfl hr (fun σ => passAt (takes_of rfl rfl rfl rfl) σ) (pa_cons (pv 0) (pa_cons (pv 1) pa_nil))))
      (pss_cons (ps_set (i := 2) sc_log_program.nd rfl (Or.inl rfl) (pe_dn dWorksOf hr (pa_cons (pv 0) (pa_cons (pv 1) pa_nil))))
      (pss_cons (ps_set (i := 3) sc_log_program.nd rfl (Or.inl rfl) (pe_lst pa_nil))
      (pss_cons (ps_set (i := 4) sc_log_program.nd rfl (Or.inl rfl) (pe_lst pa_nil))
      (pss_cons (ps_set (i := 5) sc_log_program.nd rfl (Or.inr rfl) pe_dnewT)
      (pss_cons (ps_for (passes_of rfl) rfl (pi_list (pv 2)) (pg_name (i := 6) sc_log_program.nd rfl (.inr rfl)) (pss_cons (ps_set (i := 7) sc_log_program.nd rfl (Or.inl rfl) (pe_dn dStmOf hr (pa_cons (pv 0) (pa_cons (pv 6) pa_nil))))
      (pss_cons (ps_setLc (i := 8) (own := [("read", 9)]) (g := gName 9) (tt := tYes) rfl sc_log_program.nd rfl rfl (sw_true rfl rfl rfl (by decide +kernel)) (pi_tup (pe_fld (pv 7) rfl)) (blkOk_by (N := ["program", "n", "works", "writes", "takes", "last", "work", "statement", "places", "read", "array", "cell", "write"]) (sc := defScope s_log_program) (by decide +kernel)) (fun _ _ _ _ _ => (pg_name (i := 9) sc_log_program.nd rfl (.inl rfl))) (fun _ _ _ _ _ => pts_nil) (fun _ _ _ _ _ => (pe_tup (pa_cons (pe_fldK (K := K) rfl (pv 9)) (pa_cons (pe_fcallK (K := K) rfl (pv 9) cc (FnOk.raw Fc hbc .nil) (hr.mono (by decide)) pass0 (pa_cons (pe_ix (ix_tupK (K := K) rfl) (pv 6) pe_int (fun _ _ => rfl)) (pa_cons (pv 1) pa_nil))) pa_nil)))))
      (pss_cons (ps_expr (pe_bm PySem.F.plainAttrs_list PySem.F.slot_list_append PySem.F.type_list_append mt_append (pv 4) (pa_cons (pe_callTy call_tuple_of (by rfl) T.tuple (by decide +kernel) (pa_cons (pe_lc (own := [("array", 10), ("cell", 11)]) (tt := tYes) rfl sc_log_program.nd (pi_list (pv 8)) (blkOk_by (N := ["program", "n", "works", "writes", "takes", "last", "work", "statement", "places", "read", "array", "cell", "write"]) (sc := defScope s_log_program) (by decide +kernel)) (fun _ _ _ _ _ => (pg_tupK (K := K) (n := 2) rfl rfl (pgs_cons (pg_name (i := 10) sc_log_program.nd rfl (.inl rfl)) (pgs_cons (pg_name (i := 11) sc_log_program.nd rfl (.inl rfl)) pgs_nil)))) (fun _ _ _ _ _ => pts_nil) (fun _ _ _ _ _ => (pe_tup (pa_cons (pv 10) (pa_cons (pv 11) (pa_cons (pe_dget1 hu (pv 5) (pe_tup (pa_cons (pv 10) (pa_cons (pv 11) pa_nil))) ⟨rfl, rfl, rfl, rfl⟩) pa_nil)))))) pa_nil)) pa_nil)))
      (pss_cons (ps_set (i := 12) sc_log_program.nd rfl (Or.inl rfl) (pe_tup (pa_cons (pe_fld (pv 7) rfl) (pa_cons (pe_fcallK (K := K) rfl (pv 7) cs (FnOk.raw Fs hbs .nil) (hr.mono (by decide)) pass0 (pa_cons (pe_ix (ix_tupK (K := K) rfl) (pv 6) pe_int (fun _ _ => rfl)) (pa_cons (pv 1) pa_nil))) pa_nil))))
      (pss_cons (ps_expr (pe_bm PySem.F.plainAttrs_list PySem.F.slot_list_append PySem.F.type_list_append mt_append (pv 3) (pa_cons (pv 12) pa_nil)))
      (pss_one (ps_dput hu (pv 5) (pv 12) (pv 6) rfl))))))))
      (pss_one (ps_ret (pe_LgP (K := K) MLg rfl hr (fun σ => passAt (takes_of rfl rfl rfl rfl) σ) (pa_cons (pe_callTy call_tuple_of (by rfl) T.tuple (by decide +kernel) (pa_cons (pv 2) pa_nil)) (pa_cons (pe_callTy call_tuple_of (by rfl) T.tuple (by decide +kernel) (pa_cons (pv 3) pa_nil)) (pa_cons (pe_callTy call_tuple_of (by rfl) T.tuple (by decide +kernel) (pa_cons (pv 4) pa_nil)) pa_nil)))))))))))), ?_⟩
    refine ⟨_, rfl, _, rfl, v, nv, ls, rfl, ob, l3, ok, ?_⟩
    rcases k with ⟨iv, k⟩ | ⟨n, rfl, k1, k2⟩
    · exact .inl ⟨iv, k⟩
    refine .inr ⟨n, rfl, k1, fun hn => ⟨(k2 hn).1, fun few H0 s0 => ?_⟩⟩
    have k := (k2 hn).2 few
    have fewl : Few ls n := fun l hl => Int.le_trans (lpN_tot hl) few
    have wlen := works_few ok l3 fewl
    refine ⟨_, rfl, _, rfl, v, ls, n, rfl, ob.same s0, l3, ok, fewl, fun W H1 ws s1 hW eW dW => ?_⟩
    have s01 := s0.trans s1
    have lws : ws.length = (works ls n).length := by rw [dW.len, List.length_map]
    refine normG (σ' := [some v, some (.int n), some (.ref W), none, none, none, none, none, none, none, none, none, none]) rfl ?_
    refine ⟨(by decide), fun B hB => ?_⟩
    have sB := Same.new (.lst []) (Same.refl H1) hB
    obtain ⟨H2, eH2⟩ : ∃ X, X = upd H1 B (.lst []) := ⟨_, rfl⟩
    have eB2 : H2 B = some (.lst []) := by rw [eH2]; exact upd_same
    rw [← eH2] at sB
    rw [← eH2]
    refine normG (σ' := [some v, some (.int n), some (.ref W), some (.ref B), none, none, none, none, none, none, none, none, none]) rfl ?_
    refine ⟨(by decide), fun TT hTT => ?_⟩
    have sT := Same.new (.lst []) (Same.refl H2) hTT
    obtain ⟨H3, eH3⟩ : ∃ X, X = upd H2 TT (.lst []) := ⟨_, rfl⟩
    have eT3 : H3 TT = some (.lst []) := by rw [eH3]; exact upd_same
    rw [← eH3] at sT
    rw [← eH3]
    refine normG (σ' := [some v, some (.int n), some (.ref W), some (.ref B), some (.ref TT), none, none, none, none, none, none, none, none]) rfl ?_
    refine fun L hL => ?_
    have sL := Same.new (.dT []) (Same.refl H3) hL
    obtain ⟨H4, eH4⟩ : ∃ X, X = upd H3 L (.dT []) := ⟨_, rfl⟩
    have eL4 : H4 L = some (.dT []) := by rw [eH4]; exact upd_same
    rw [← eH4] at sL
    rw [← eH4]
    refine normG (σ' := [some v, some (.int n), some (.ref W), some (.ref B), some (.ref TT), some (.ref L), none, none, none, none, none, none, none]) rfl ?_
    have eB4 := sL _ _ (sT _ _ eB2)
    have eT4 := sL _ _ eT3
    have s14 := sB.trans (sT.trans sL)
    have eW4 := s14 _ _ eW
    have s04 := s01.trans s14
    have nWB : W ≠ B := ne_of_none eW hB
    have nWT : W ≠ TT := ne_of_none (sB _ _ eW) hTT
    have nWL : W ≠ L := ne_of_none (sT _ _ (sB _ _ eW)) hL
    have nBT : B ≠ TT := ne_of_none eB2 hTT
    have nBL : B ≠ L := ne_of_none (sT _ _ eB2) hL
    have nTL : TT ≠ L := ne_of_none eT3 hL
    have hHB : H B = none := by
      cases hh : H B with
      | none => rfl
      | some o =>
        rw [s01 _ _ hh] at hB
        cases hB
    have hHT : H TT = none := by
      cases hh : H TT with
      | none => rfl
      | some o =>
        rw [sB _ _ (s01 _ _ hh)] at hTT
        cases hTT
    have hHL : H L = none := by
      cases hh : H L with
      | none => rfl
      | some o =>
        rw [sT _ _ (sB _ _ (s01 _ _ hh))] at hL
        cases hL
    refine ⟨_, rfl, W, rfl, ⟨_, SqL.of eW4⟩, ?_⟩
    refine for_list (K := K) (xs := ws) (fun i σ H' => ∃ (v6 v7 v8 v9 v10 v11 v12 : Option V) (fs ts : List V) (kvs : List (List Key × V)), σ = [some v, some (.int n), some (.ref W), some (.ref B), some (.ref TT), some (.ref L), v6, v7, v8, v9, v10, v11, v12] ∧
        H' B = some (.lst fs) ∧ DTs H' fs ((lg ls n ((works ls n).take i)).1.map fun e => cD e.2.1) ∧ H' TT = some (.lst ts) ∧ DTs H' ts ((lg ls n ((works ls n).take i)).1.map fun e => .tuple (e.2.2.map tkD)) ∧
        H' L = some (.dT kvs) ∧ DR H' kvs (lg ls n ((works ls n).take i)).2 ∧ Same H H' ∧ H' W = some (.lst ws) ∧ TSame H1 H')
      ⟨_, _, _, _, _, _, _, [], [], [], rfl, eB4, .nil, eT4, .nil, eL4, trivial, s04, eW4, .of s14⟩ (fun i σ H' _ z => by
        obtain ⟨_, _, _, _, _, _, _, _, _, _, _, _, _, _, _, _, _, _, e, _⟩ := z
        exact SqL.of e) ?_ ?_
    · rintro i wv σ H5 hwv ⟨v6, v7, v8, v9, v10, v11, v12, fs, ts, kvs, rfl, eB, dB, eT, dT, eL, dL, s5, eW5, ts5⟩
      obtain ⟨w0, hw, dw⟩ := dW.map' hwv
      obtain ⟨tw, rfl, htw⟩ := dt_w (dw.to ts5)
      obtain ⟨j, q, l, s, hj, hq, hl, hc, hs⟩ := works_mem (List.mem_of_getElem? hw)
      have hst := stAt_of hj hq hl hs
      have okl := ok l (List.mem_of_getElem? hl)
      have oks : StOk s := by
        have := okl
        obtain ⟨_, _, _, _, _, _, _, _, _, _, _, _, _, _, _, _, _, okS⟩ := this
        exact okS s (List.mem_of_getElem? hs)
      obtain ⟨nmx, sm6, _, _, lr, _, okr, _⟩ := id oks
      obtain ⟨m, hm⟩ : ∃ m, m = (lg ls n ((works ls n).take i)).2 := ⟨_, rfl⟩
      have hi : i < (works ls n).length := (List.getElem?_eq_some_iff.mp hw).1
      have lm : kvs.length ≤ 180000 ∧ fs.length ≤ 180000 ∧ ts.length ≤ 180000 := by
        have h1 := lg_len (ls := ls) (n := n) (ws := (works ls n).take i)
        rw [List.length_take] at h1
        have h2 := dL.len
        have h3 := dB.len
        have h4 := dT.len
        rw [List.length_map] at h3 h4
        omega
      rw [← hm] at dL
      refine normG (σ' := [some v, some (.int n), some (.ref W), some (.ref B), some (.ref TT), some (.ref L), some (.ref tw), v7, v8, v9, v10, v11, v12]) rfl ?_
      refine ⟨_, rfl, _, rfl, v, ls, tw, w0, j, q, l, s, rfl, ob.same s5, htw, hj, hq, hl, hs, fun v' obs => ?_⟩
      obtain ⟨p6, rs, cs, rfl, ⟨dx6, q6, r6, g6, h6, hq6, hr6, hg6⟩, f1, f2⟩ := obs
      refine normG (σ' := [some v, some (.int n), some (.ref W), some (.ref B), some (.ref TT), some (.ref L), some (.ref tw), some (.ref p6), v8, v9, v10, v11, v12]) rfl ?_
      have h6s := h6
      refine ⟨_, rfl, p6, _, dx6, _, _, rfl, h6, T.clM, T.nMR, stf_r _ _ _ _ _, r6, rfl, ⟨_, hr6⟩, fun D hD => ?_⟩
      have sD := Same.new (.lst []) (Same.refl H5) hD
      have hHD : H D = none := by
        cases hh : H D with
        | none => rfl
        | some o =>
          rw [s5 _ _ hh] at hD
          cases hD
      have lrs : rs.length = s.rds.length := f1.1
      refine lc_tup (K := K) (xs := rs) (fun b Hc => ∃ us : List V, Hc D = some (.lst us) ∧ DTs Hc us ((s.rds.take b).map fun r => cD (rdCell r w0.2.1 n)) ∧ Same H5 Hc) ⟨[], upd_same, .nil, sD⟩ (fun b Hc _ z => by
        obtain ⟨_, _, _, sc⟩ := z
        exact SqT.same hr6 sc) ?_ ?_
      · rintro b rv Hc hrv ⟨us, eD, dD, sc⟩
        obtain ⟨r, er, obr⟩ := (f1.imp fun _ _ z => z.same sc).at hrv
        obtain ⟨pr, dr, qp, a, bb, e, d, rfl, hpr, hplc, sa, sb, d0, d1, ev⟩ := rd_cell obr w0.2.1 n
        obtain ⟨dq, qq, hpi, _⟩ := id hplc
        have lus : us.length ≤ 3 := by
          rw [dD.len, List.length_map, List.length_take]
          omega
        refine ⟨rfl, yes_of ?_⟩
        refine ⟨_, rfl, pr, _, dr, _, _, rfl, hpr, T.clR, T.nRA, rdf_a _ _ _, _, rfl, pr, _, dr, _, qp, rfl, hpr, T.clR, T.nRP, rdf_p _ _ _, _, rfl, tw, _, _, _, rfl, rfl, SqT.of (sc _ _ htw), at1, _, rfl, ⟨_, _, hpi⟩, qp, a, bb, e, d, w0.2.1, n, rfl, hplc, sa, sb, d0, d1, ?_⟩
        rw [ev]
        refine ⟨sz2, fun Cc hCc => ?_⟩
        have s6 := Same.new (.tup [.str r.x, .int (rdCell r w0.2.1 n).2]) (Same.refl Hc) hCc
        have tsU : TSame (upd Hc Cc (.tup [.str r.x, .int (rdCell r w0.2.1 n).2])) (upd (upd Hc Cc (.tup [.str r.x, .int (rdCell r w0.2.1 n).2])) D (.lst (us ++ [.ref Cc]))) := .updL (s6 _ _ eD)
        refine ⟨us, s6 _ _ eD, sz1l _ (by omega), us ++ [.ref Cc], upd_same, ?_, fun b' o eb => ?_⟩
        · rw [List.take_add_one, er]
          exact (dD.to ((TSame.of s6).trans tsU)).snoc (.tup (tsU _ _ upd_same) (.cons (.str _) (.cons (.int _) .nil)))
        · rw [upd_ne (ne_of_none eb hD)]
          exact s6 _ _ (sc _ _ eb)
      rintro H6 ⟨us, eD6, dD6, s56⟩
      rw [lrs, List.take_length] at dD6
      have lus : us.length = s.rds.length := by rw [dD6.len, List.length_map]
      refine normG (σ' := [some v, some (.int n), some (.ref W), some (.ref B), some (.ref TT), some (.ref L), some (.ref tw), some (.ref p6), some (.ref D), v9, v10, v11, v12]) rfl ?_
      have eT6 := s56 _ _ eT
      have eL6 := s56 _ _ eL
      refine ⟨_, rfl, .inl ⟨rfl, _, SqL.of eT6⟩, _, rfl, D, rfl, ⟨_, SqL.of eD6⟩, fun D2 hD2 => ?_⟩
      have sD2 := Same.new (.lst []) (Same.refl H6) hD2
      refine lc_list (K := K) (xs := us) (fun b Hc => ∃ zs : List V, Hc D2 = some (.lst zs) ∧ DTs Hc zs ((tks m (s.rds.take b) w0.2.1 n).map tkD) ∧ Same H6 Hc) ⟨[], upd_same, .nil, sD2⟩ (fun b Hc _ z => by
        obtain ⟨_, _, _, sc⟩ := z
        exact SqL.of (sc _ _ eD6)) ?_ ?_
      · rintro b uv Hc huv ⟨zs, eZ, dZ, sc⟩
        have ur : ∃ r, s.rds[b]? = some r := ⟨_, List.getElem?_eq_getElem (by
          have := (List.getElem?_eq_some_iff.mp huv).1
          omega)⟩
        obtain ⟨r, er⟩ := ur
        obtain ⟨dv, hdv, duv⟩ := DTs.map' (dD6.to (.of sc)) huv
        rw [er] at hdv
        cases hdv
        obtain ⟨tc, rfl, htc⟩ := dt_c duv
        have lzs : zs.length ≤ 3 := by
          rw [dZ.len, List.length_map]
          unfold tks
          rw [List.length_map, List.length_take]
          omega
        obtain ⟨cl, ecl⟩ : ∃ cl, cl = rdCell r w0.2.1 n := ⟨_, rfl⟩
        rw [← ecl] at htc
        refine ⟨tc, _, rfl, SqT.of htc, rfl, _, _, rfl, _, _, rfl, rfl, rfl, yes_of ?_⟩
        have eLc := sc _ _ eL6
        refine ⟨_, rfl, _, rfl, _, rfl, L, rfl, .inr ⟨_, .inl eLc⟩, _, rfl, _, rfl, sz2, fun C2 hC2 => ?_⟩
        have s7 := Same.new (.tup ((cK cl).map kV)) (Same.refl Hc) hC2
        have s57 : Same H5 (upd Hc C2 (.tup ((cK cl).map kV))) := s56.trans (sc.trans s7)
        refine ⟨_, DGet.t (s7 _ _ eLc) (k := cK cl) upd_same, sz3, fun C3 hC3 => ?_⟩
        obtain ⟨g, hg⟩ : ∃ g : V, g = (valV kvs (cK cl)).getD .non := ⟨_, rfl⟩
        obtain ⟨go, hgo, dg⟩ : ∃ go, go = dGet m cl ∧ DT H5 g (match go with | none => .none | some w => wD w) := by
          refine ⟨_, rfl, ?_⟩
          rcases dL.get cl with ⟨e1, e2⟩ | ⟨vo, wo, e1, e2, dvo⟩
          · rw [hg, e1, e2]
            exact .non
          · rw [hg, e1, e2]
            exact dvo
        have s8 := Same.new (.tup [.str cl.1, .int cl.2, g]) (Same.refl (upd Hc C2 (.tup ((cK cl).map kV)))) hC3
        have eZ8 := s8 _ _ (s7 _ _ eZ)
        have tsU : TSame _ (upd (upd (upd Hc C2 (.tup ((cK cl).map kV))) C3 (.tup [.str cl.1, .int cl.2, g])) D2 (.lst (zs ++ [.ref C3]))) := .updL eZ8
        rw [← hg]
        refine ⟨zs, eZ8, sz1l _ (by omega), zs ++ [.ref C3], upd_same, ?_, fun b' o eb => ?_⟩
        · have e : (tks m (s.rds.take (b + 1)) w0.2.1 n).map tkD = (tks m (s.rds.take b) w0.2.1 n).map tkD ++ [tkD (cl, go)] := by
            unfold tks
            rw [List.take_add_one, er, List.map_append, List.map_append]
            congr 1
            rw [hgo, ecl]
            rfl
          rw [e]
          refine (dZ.to ((TSame.of (s7.trans s8)).trans tsU)).app (.one ?_)
          refine .tup (tsU _ _ upd_same) (.cons (.str _) (.cons (.int _) (.cons ?_ .nil)))
          exact dg.to ((TSame.of (s57.trans s8)).trans tsU)
        · rw [upd_ne (ne_of_none eb hD2)]
          exact s8 _ _ (s7 _ _ (sc _ _ eb))
      rintro H7 ⟨zs, eZ7, dZ7, s67⟩
      rw [lus, List.take_length] at dZ7
      refine ⟨D2, zs, rfl, .inl ⟨SqL.of eZ7, fun X1 hX1 => ?_⟩⟩
      have s78 := Same.new (.tup zs) (Same.refl H7) hX1
      have s58 := s56.trans (s67.trans s78)
      obtain ⟨H8, eH8⟩ : ∃ X, X = upd H7 X1 (.tup zs) := ⟨_, rfl⟩
      have eX8 : H8 X1 = some (.tup zs) := by rw [eH8]; exact upd_same
      rw [← eH8] at s78 s58
      rw [← eH8]
      have eT8 := s58 _ _ eT
      refine ⟨TT, _, _, rfl, rfl, eT8, sz1m _ (by omega), ?_⟩
      obtain ⟨H9, eH9⟩ : ∃ X, X = upd H8 TT (.lst (ts ++ [.ref X1])) := ⟨_, rfl⟩
      have ts89 : TSame H8 H9 := by rw [eH9]; exact .updL eT8
      have ms89 : MS H8 H9 := by rw [eH9]; exact .updL eT8
      have eT9 : H9 TT = some (.lst (ts ++ [.ref X1])) := by rw [eH9]; exact upd_same
      have eB9 : H9 B = some (.lst fs) := by rw [eH9, upd_ne nBT]; exact s58 _ _ eB
      have eL9 : H9 L = some (.dT kvs) := by rw [eH9, upd_ne nTL.symm]; exact s58 _ _ eL
      have eW9 : H9 W = some (.lst ws) := by rw [eH9, upd_ne nWT]; exact s58 _ _ eW5
      have s59 : Same H H9 := fun b o e => by
        rw [eH9, upd_ne (ne_of_none e hHT)]
        exact s58 _ _ (s5 _ _ e)
      rw [← eH9]
      have ts59 : TSame H5 H9 := (TSame.of s58).trans ts89
      have ms59 : MS H5 H9 := (MS.of s58).trans ms89
      have h69 := ms59 _ _ h6 rfl
      have hq69 := ms_str ms59 hq6
      obtain ⟨dq6, hq6i⟩ := id hq69
      have htw9 := ts59 _ _ htw
      have sms := sm3_a sm6
      refine ⟨_, rfl, p6, _, dx6, _, _, rfl, h69, T.clM, T.nMA, stf_a _ _ _ _ _, _, rfl, p6, _, dx6, _, q6, rfl, h69, T.clM, T.nMC, stf_c _ _ _ _ _, _, rfl, tw, _, _, _, rfl, rfl, SqT.of htw9, at1, _, rfl, ⟨_, _, hq6i⟩, q6, s.a, s.b, s.c, w0.2.1, n, rfl, hq69, sms.1, sms.2, sz2, fun X2 hX2 => ?_⟩
      obtain ⟨cl, ecl⟩ : ∃ cl, cl = cellOf s w0.2.1 n := ⟨_, rfl⟩
      have ecl2 : (.tup [.str s.x, .int (s.a * w0.2.1 + s.b * n + s.c)] : HO) = .tup ((cK cl).map kV) := by rw [ecl]; rfl
      rw [ecl2]
      have s9a := Same.new (.tup ((cK cl).map kV)) (Same.refl H9) hX2
      obtain ⟨Ha, eHa⟩ : ∃ X, X = upd H9 X2 (.tup ((cK cl).map kV)) := ⟨_, rfl⟩
      have eXa : Ha X2 = some (.tup ((cK cl).map kV)) := by rw [eHa]; exact upd_same
      rw [← eHa] at s9a
      rw [← eHa]
      refine normG (σ' := [some v, some (.int n), some (.ref W), some (.ref B), some (.ref TT), some (.ref L), some (.ref tw), some (.ref p6), some (.ref D), v9, v10, v11, some (.ref X2)]) rfl ?_
      have eBa := s9a _ _ eB9
      refine ⟨_, rfl, .inl ⟨rfl, _, SqL.of eBa⟩, _, rfl, B, _, _, rfl, rfl, eBa, sz1m _ (by omega), ?_⟩
      obtain ⟨Hb, eHb⟩ : ∃ X, X = upd Ha B (.lst (fs ++ [.ref X2])) := ⟨_, rfl⟩
      have tsab : TSame Ha Hb := by rw [eHb]; exact .updL eBa
      have eBb : Hb B = some (.lst (fs ++ [.ref X2])) := by rw [eHb]; exact upd_same
      have eTb : Hb TT = some (.lst (ts ++ [.ref X1])) := by rw [eHb, upd_ne nBT.symm]; exact s9a _ _ eT9
      have eLb : Hb L = some (.dT kvs) := by rw [eHb, upd_ne nBL.symm]; exact s9a _ _ eL9
      have eWb : Hb W = some (.lst ws) := by rw [eHb, upd_ne nWB]; exact s9a _ _ eW9
      have sHb : Same H Hb := fun b o e => by
        rw [eHb, upd_ne (ne_of_none e hHB)]
        exact s9a _ _ (s59 _ _ e)
      rw [← eHb]
      have eXb := tsab _ _ eXa
      refine ⟨_, rfl, _, rfl, _, rfl, L, _, rfl, DPut.t eLb eXb (sz1m _ (by omega)), ?_⟩
      have tsbc : TSame Hb (upd Hb L (.dT (putK kvs (cK cl) (.ref tw)))) := .updT eLb
      have ts5c := ts59.trans ((TSame.of s9a).trans (tsab.trans tsbc))
      have ts8c := ts89.trans ((TSame.of s9a).trans (tsab.trans tsbc))
      refine ⟨_, _, _, _, _, _, _, fs ++ [.ref X2], ts ++ [.ref X1], putK kvs (cK cl) (.ref tw), rfl, ?_, ?_, ?_, ?_, upd_same, ?_, fun b o e => ?_, ?_, ts5.trans ts5c⟩
      · rw [upd_ne nBL]
        exact eBb
      · rw [lg_succ hw hst, List.map_append]
        refine (dB.to ts5c).app (.one ?_)
        rw [← ecl]
        exact .tup ((tsab.trans tsbc) _ _ eXa) (.cons (.str _) (.cons (.int _) .nil))
      · rw [upd_ne nTL]
        exact eTb
      · rw [lg_succ hw hst, List.map_append]
        refine (dT.to ts5c).app (.one ?_)
        rw [← hm]
        exact .tup (ts8c _ _ eX8) (dZ7.to ((TSame.of s78).trans ts8c))
      · rw [lg_succ hw hst, ← hm, ← ecl]
        exact (dL.to ts5c).put (dw.to (ts5.trans ts5c))
      · rw [upd_ne (ne_of_none e hHL)]
        exact sHb _ _ e
      · rw [upd_ne nWL]
        exact eWb
    · rintro σ H5 ⟨v6, v7, v8, v9, v10, v11, v12, fs, ts, kvs, rfl, eB, dB, eT, dT, eL, dL, s5, eW5, ts5⟩
      rw [lws, List.take_length] at dB dT dL
      refine ⟨_, rfl, W, ws, rfl, .inl ⟨SqL.of eW5, fun wt hwt => ?_⟩⟩
      have s6 := Same.new (.tup ws) (Same.refl H5) hwt
      refine ⟨_, rfl, B, fs, rfl, .inl ⟨SqL.of (s6 _ _ eB), fun ct hct => ?_⟩⟩
      have s7 := Same.new (.tup fs) (Same.refl _) hct
      refine ⟨_, rfl, TT, ts, rfl, .inl ⟨SqL.of (s7 _ _ (s6 _ _ eT)), fun tt htt => ?_⟩⟩
      have s8 := Same.new (.tup ts) (Same.refl _) htt
      have s68 := s6.trans (s7.trans s8)
      have c1 := s8 _ _ (s7 _ _ (show (upd H5 wt (.tup ws)) wt = some (.tup ws) from upd_same))
      have c2 := s8 _ _ (show (upd (upd H5 wt (.tup ws)) ct (.tup fs)) ct = some (.tup fs) from upd_same)
      have c3 : (upd (upd (upd H5 wt (.tup ws)) ct (.tup fs)) tt (.tup ts)) tt = some (.tup ts) := upd_same
      have dW8 := (dW.to ts5).to (.of s68)
      have dB8 := dB.to (.of s68)
      have dT8 := dT.to (.of s68)
      have el : (works ls n).length = ((lg ls n (works ls n)).1.map fun e => e.2.1).length := by
        rw [List.length_map, ← List.length_map (f := fun e : Ent => e.1), lg_works]
      have em : ((lg ls n (works ls n)).1.map fun e => e.2.1).map cD = (lg ls n (works ls n)).1.map fun e => cD e.2.1 := by rw [List.map_map]; rfl
      exact ⟨wt, ct, tt, ws, fs, works ls n, _, rfl, c1, c2, dW8, em ▸ dB8, el, by omega, fun p H' s' o => k p H' (s5.trans (s68.trans s')) ⟨wt, ct, tt, ws, fs, ts, o, s' _ _ c1, dW8.to (.of s'), s' _ _ c2, dB8.to (.of s'), s' _ _ c3, dT8.to (.of s')⟩⟩
end
end K26
set_option maxHeartbeats 4000000
namespace K26
open PySem PySem.Spec PyProof.Rows L2 Z
theorem _root_.L2.DGet.r {H : Hp} {a b : Addr} {kvs : List (List Key × V)} {k : List Key} (e : Rd H a (.dT kvs)) (eb : H b = some (.tup (k.map kV))) : DGet H a (.ref b) (valV kvs k) := .inr ⟨kvs, k, b, e, rfl, eb, rfl⟩
theorem dGet_nil {c : Cell} : dGet [] c = none := rfl
theorem dGet_cons {f : Cell × W3} {m : DM} {c : Cell} : dGet (f :: m) c = if f.1 = c then some f.2 else dGet m c := by
  unfold dGet
  rw [List.find?_cons]
  by_cases h : f.1 = c
  · simp [h]
  · simp [h]
theorem dGet_app {c d : Cell} {w : W3} : ∀ {m : DM}, (m.any fun e => decide (e.1 = c)) = false → dGet (m ++ [(c, w)]) d = if c = d then some w else dGet m d
  | [], _ => by
    rw [List.nil_append, dGet_cons, dGet_nil]
  | f :: m, h => by
    rw [List.any_cons, Bool.or_eq_false_iff] at h
    have hn : ¬ f.1 = c := of_decide_eq_false h.1
    rw [List.cons_append, dGet_cons, dGet_app h.2, dGet_cons]
    by_cases e : f.1 = d
    · rw [if_pos e, if_neg (fun z => hn (e.trans z.symm)), if_pos e]
    · rw [if_neg e, if_neg e]
theorem dGet_map {c d : Cell} {w : W3} : ∀ {m : DM}, dGet (m.map fun e => if e.1 = c then (e.1, w) else e) d = if c = d then (if (m.any fun e => decide (e.1 = c)) = true then some w else none) else dGet m d
  | [] => by
    rw [List.map_nil, dGet_nil]
    split <;> rfl
  | f :: m => by
    rw [List.map_cons, dGet_cons, dGet_map, List.any_cons, dGet_cons]
    by_cases h : f.1 = c
    · rw [if_pos h]
      by_cases e : c = d
      · rw [if_pos (h.trans e), if_pos e, if_pos (by rw [decide_eq_true h]; rfl)]
      · rw [if_neg (fun z => e (h.symm.trans z)), if_neg e, if_neg e, if_neg (fun z => e (h.symm.trans z))]
    · rw [if_neg h, decide_eq_false h, Bool.false_or]
      by_cases e : f.1 = d
      · rw [if_pos e, if_neg (fun z => h (e.trans z.symm)), if_pos e]
      · rw [if_neg e, if_neg e]
theorem dGet_put {m : DM} {c d : Cell} {w : W3} : dGet (dPut m c w) d = if c = d then some w else dGet m d := by
  unfold dPut
  by_cases h : (m.any fun e => decide (e.1 = c)) = true
  · rw [if_pos h, dGet_map, if_pos h]
  · rw [if_neg h, dGet_app ((Bool.not_eq_true _).mp h)]
theorem dPut_mem {m : DM} {c : Cell} {w : W3} {f : Cell × W3} (h : f ∈ dPut m c w) : f.2 = w ∨ f ∈ m := by
  unfold dPut at h
  split at h
  · obtain ⟨g, hg, e⟩ := List.mem_map.mp h
    by_cases z : g.1 = c
    · rw [if_pos z] at e
      rw [← e]
      exact .inl rfl
    · rw [if_neg z] at e
      rw [← e]
      exact .inr hg
  · rcases List.mem_append.mp h with z | z
    · exact .inr z
    · rw [List.mem_singleton.mp z]
      exact .inl rfl
theorem dGet_mem {m : DM} {c : Cell} {u : W3} (h : dGet m c = some u) : (c, u) ∈ m := by
  unfold dGet at h
  cases hf : m.find? fun e => decide (e.1 = c) with
  | none =>
    rw [hf] at h
    cases h
  | some e =>
    rw [hf] at h
    have h1 := List.mem_of_find?_eq_some hf
    have h2 : e.1 = c := of_decide_eq_true (List.find?_some (p := fun e : Cell × W3 => decide (e.1 = c)) hf)
    cases h
    rw [← h2]
    exact h1
/-- every source is a work of the run -/
def Src (W : List W3) (Es : List Ent) : Prop := ∀ e ∈ Es, ∀ t ∈ e.2.2, ∀ u, t.2 = some u → u ∈ W
/-- who wrote a cell last -/
def lastW (W : List W3) (Es : List Ent) (c : Cell) : Option W3 := (lastIx (Es.map fun e => e.2.1) c).bind fun i => W[i]?
section
variable {ls : List LpM} {n : Int}
theorem lg_src : ∀ {i : Nat}, i ≤ (works ls n).length → (∀ f ∈ (lg ls n ((works ls n).take i)).2, f.2 ∈ works ls n) ∧ Src (works ls n) (lg ls n ((works ls n).take i)).1
  | 0, _ => ⟨fun _ h => (List.not_mem_nil h).elim, fun _ h => (List.not_mem_nil h).elim⟩
  | i + 1, h => by
    have hw := List.getElem?_eq_getElem (l := works ls n) (i := i) h
    have mem := List.mem_of_getElem? hw
    obtain ⟨j, q, l, s, hj, hq, hl, _, hs⟩ := works_mem mem
    obtain ⟨h1, h2⟩ := lg_src (i := i) (Nat.le_of_lt h)
    rw [lg_succ hw (stAt_of hj hq hl hs)]
    refine ⟨fun f hf => ?_, fun e he t ht u hu => ?_⟩
    · rcases dPut_mem hf with z | z
      · rw [z]
        exact mem
      · exact h1 f z
    · rcases List.mem_append.mp he with z | z
      · exact h2 e z t ht u hu
      · rw [List.mem_singleton.mp z] at ht
        obtain ⟨r, _, rfl⟩ := List.mem_map.mp ht
        exact h1 _ (dGet_mem hu)
theorem lg_last {c : Cell} : ∀ {i : Nat}, i ≤ (works ls n).length → dGet (lg ls n ((works ls n).take i)).2 c = lastW (works ls n) (lg ls n ((works ls n).take i)).1 c
  | 0, _ => rfl
  | i + 1, h => by
    have hw := List.getElem?_eq_getElem (l := works ls n) (i := i) h
    obtain ⟨j, q, l, s, hj, hq, hl, _, hs⟩ := works_mem (List.mem_of_getElem? hw)
    have len : ((lg ls n ((works ls n).take i)).1.map fun e => e.2.1).length = i := by
      have h2 := lg_fst (ls := ls) (n := n) (Nat.le_of_lt h)
      have h3 := congrArg List.length h2
      rw [List.length_map, List.length_take, Nat.min_eq_left (Nat.le_of_lt h)] at h3
      rw [List.length_map]
      exact h3
    rw [lg_succ hw (stAt_of hj hq hl hs), dGet_put]
    unfold lastW
    rw [List.map_append]
    show _ = (lastIx (((lg ls n ((works ls n).take i)).1.map fun e => e.2.1) ++ [cellOf s (works ls n)[i].2.1 n]) c).bind _
    rw [lastIx_snoc, len]
    by_cases e : cellOf s (works ls n)[i].2.1 n = c
    · rw [if_pos e, if_pos e]
      exact hw.symm
    · rw [if_neg e, if_neg e]
      exact lg_last (Nat.le_of_lt h)
theorem lg_closed : Src (works ls n) (lg ls n (works ls n)).1 := by
  have h := (lg_src (ls := ls) (n := n) (Nat.le_refl _)).2
  rwa [List.take_length] at h
theorem lg_lastW {c : Cell} : dGet (lg ls n (works ls n)).2 c = lastW (works ls n) (lg ls n (works ls n)).1 c := by
  have h := lg_last (ls := ls) (n := n) (c := c) (Nat.le_refl _)
  rwa [List.take_length] at h
end
/-- what a work took -/
def tbl (W : List W3) (Es : List Ent) (w : W3) : List Take := match (lastIx W w).bind fun i => Es[i]? with
  | some e => e.2.2
  | none => []
def oD : Option W3 → PyData
  | none => .none
  | some w => wD w
def termD (f : W3 → List Take) : Nat → W3 → PyData
  | 0, w => wD w
  | d + 1, w => .tuple [wD w, .tuple ((f w).map fun t => match t.2 with
    | none => cD t.1
    | some u => termD f d u)]
def tmD (f : W3 → List Take) (d : Nat) (t : Take) : PyData := match t.2 with
  | none => cD t.1
  | some u => termD f d u
theorem termD_succ {f : W3 → List Take} {d : Nat} {w : W3} : termD f (d + 1) w = .tuple [wD w, .tuple ((f w).map (tmD f d))] := rfl
theorem tbl_at {W : List W3} {Es : List Ent} {w : W3} {i : Nat} {e : Ent} (h : lastIx W w = some i) (he : Es[i]? = some e) : tbl W Es w = e.2.2 := by
  unfold tbl
  rw [h]
  show (match Es[i]? with | some e => e.2.2 | none => []) = _
  rw [he]
theorem dt_wI {H : Hp} {v : V} {w : W3} (h : DT H v (wD w)) : ∃ t, v = .ref t ∧ H t = some (.tup ((wK w).map kV)) := dt_w h
theorem lgf_no {a b c d e : Addr} {x : Str} (h1 : ¬ x = "works") (h2 : ¬ x = "writes") (h3 : ¬ x = "takes") (h4 : ¬ x = "numbers") (h5 : ¬ x = "writers") : (lgf a b c d e).lookup x = none := by
  unfold lgf
  rw [lookup_putF, if_neg h5, lookup_putF, if_neg h4, lookup_putF, if_neg h3, lookup_putF, if_neg h2, lookup_putF, if_neg h1]
  rfl
theorem lgf_w {a b c d e : Addr} : (lgf a b c d e).lookup ("works" : Str) = some (.ref a) := by
  unfold lgf
  rw [lookup_putF, if_neg (by decide +kernel), lookup_putF, if_neg (by decide +kernel), lookup_putF, if_neg (by decide +kernel), lookup_putF, if_neg (by decide +kernel), lookup_putF, if_pos rfl]
theorem lgf_c {a b c d e : Addr} : (lgf a b c d e).lookup ("writes" : Str) = some (.ref b) := by
  unfold lgf
  rw [lookup_putF, if_neg (by decide +kernel), lookup_putF, if_neg (by decide +kernel), lookup_putF, if_neg (by decide +kernel), lookup_putF, if_pos rfl]
theorem lgf_t {a b c d e : Addr} : (lgf a b c d e).lookup ("takes" : Str) = some (.ref c) := by
  unfold lgf
  rw [lookup_putF, if_neg (by decide +kernel), lookup_putF, if_neg (by decide +kernel), lookup_putF, if_pos rfl]
theorem lgf_n {a b c d e : Addr} : (lgf a b c d e).lookup ("numbers" : Str) = some (.ref d) := by
  unfold lgf
  rw [lookup_putF, if_neg (by decide +kernel), lookup_putF, if_pos rfl]
theorem lgf_r {a b c d e : Addr} : (lgf a b c d e).lookup ("writers" : Str) = some (.ref e) := by
  unfold lgf
  rw [lookup_putF, if_pos rfl]
theorem LogOb.same {K : PySem.W.Frag} {H H' : Hp} {p wt ct tt : Addr} {ws : List V} {W : List W3} {C : List Cell} (h : LogOb K H p wt ct tt ws W C) (s : Same H H') : LogOb K H' p wt ct tt ws W C := by
  obtain ⟨dx, nd, wd, nk, wk, h1, h2, h3, h4, h5⟩ := h
  exact ⟨dx, nd, wd, nk, wk, s _ _ h1, rd_same h2 s, h3, rd_same h4 s, h5⟩
theorem LogAt.same {K : PySem.W.Frag} {H H' : Hp} {p : Addr} {W : List W3} {Es : List Ent} (h : LogAt K H p W Es) (s : Same H H') : LogAt K H' p W Es := by
  obtain ⟨wt, ct, tt, ws, cs, ts, h1, h2, h3, h4, h5, h6, h7⟩ := h
  exact ⟨wt, ct, tt, ws, cs, ts, h1.same s, s _ _ h2, h3.to (.of s), s _ _ h4, h5.to (.of s), s _ _ h6, h7.to (.of s)⟩
theorem dt_tup {H : Hp} {v : V} {ds : List PyData} (h : DT H v (.tuple ds)) : ∃ t xs, v = .ref t ∧ H t = some (.tup xs) ∧ DTs H xs ds := by
  cases h with
  | tup e r => exact ⟨_, _, rfl, e, r⟩
theorem dt_tk {H : Hp} {v : V} {t : Take} (h : DT H v (tkD t)) : ∃ a u, v = .ref a ∧ H a = some (.tup [.str t.1.1, .int t.1.2, u]) ∧ DT H u (oD t.2) := by
  obtain ⟨c, o⟩ := t
  cases h with
  | tup e r =>
    cases r with
    | cons r1 r =>
      cases r with
      | cons r2 r =>
        cases r with
        | cons r3 r =>
          cases r
          cases r1
          cases r2
          refine ⟨_, _, rfl, e, ?_⟩
          cases o with
          | none => exact r3
          | some w => exact r3
theorem last_in {W : List W3} {w : W3} (h : w ∈ W) : ∃ i, lastIx W w = some i := by
  cases e : lastIx W w with
  | none => exact absurd h (lastIx_none e)
  | some i => exact ⟨i, rfl⟩
def spLW (K : PySem.W.Frag) : Sp := fun vs H Q _ => ∃ (p : Addr) (x : Str) (i : Int) (W : List W3) (Es : List Ent), vs = [.ref p, .str x, .int i] ∧ LogAt K H p W Es ∧ ∀ v H', Same H H' → DT H' v (oD (lastW W Es (x, i))) → Q v H'
/-- depths below B -/
def spTB (K : PySem.W.Frag) (B : Nat) : Sp := fun vs H Q _ => ∃ (p : Addr) (v : V) (d : Nat) (w : W3) (W : List W3) (Es : List Ent), vs = [.ref p, v, .int (d : Int)] ∧ d < B ∧ LogAt K H p W Es ∧ Src W Es ∧ W.length = Es.length ∧ (∀ e ∈ Es, e.2.2.length ≤ 3) ∧ DT H v (wD w) ∧ w ∈ W ∧
  ∀ v' H', Same H H' → DT H' v' (termD (tbl W Es) d w) → Q v' H'
def spTO (K : PySem.W.Frag) : Sp := fun vs H Q E => ∃ (p tw : Addr) (d : Int) (w : W3) (W : List W3) (Es : List Ent), vs = [.ref p, .ref tw, .int d] ∧ LogAt K H p W Es ∧ Src W Es ∧ W.length = Es.length ∧ (∀ e ∈ Es, e.2.2.length ≤ 3) ∧ H tw = some (.tup ((wK w).map kV)) ∧
  (w ∉ W → RzV K "NoWork" ["work"] [.ref tw] H E) ∧ (w ∈ W → ¬ (0 ≤ d ∧ d ≤ 4) → RzV K "BadNumber" ["what", "number"] [.str "depth", .int d] H E) ∧ (w ∈ W → 0 ≤ d ∧ d ≤ 4 → ∀ v' H', Same H H' → DT H' v' (termD (tbl W Es) d.toNat w) → Q v' H')
section
variable {P : Program} {w : World} {K : PySem.W.Frag} {mg : Str → Option Value} {base : Heap}
theorem scLoglast_writer : FnScope ["self", "array", "cell"] ["self", "array", "cell"] (defScope iLoglast_writer) := ⟨rfl, rfl, rfl, by decide +kernel, rfl, by decide +kernel, by decide +kernel⟩
theorem ok_LW {fd : FuncData} (F : FnM K "Log" "last_writer" "Log.last_writer" iLoglast_writer fd) (T : LwTx K mg) (G : LgTx K) : FnOk P w K mg base CX0 1 (He.ma K (CLg K) "last_writer") fd ["self", "array", "cell"] (spLW K) := by
  refine F.ok scLoglast_writer (fun vs H Q E h => ?_) (fun cdv A outer s H vs Q E hr h => ?_)
  · obtain ⟨p, x, i, W, Es, rfl, _⟩ := h
    rfl
  · obtain ⟨p, x, i, W, Es, rfl, ⟨wt, ct, tt, ws, cs, ts, ⟨dx, nd, wd, nk, wk, hp, hn, okN, hwd, okW⟩, hwt, dw, hct, dc, htt, dt⟩, k⟩ := h
    have hu := hu_of hr
    refine ⟨_, PSs.nox (pss_one (ps_ret (pe_dget1 hu (pe_fld (pv 0) rfl) (pe_tup (pa_cons (pv 1) (pa_cons (pv 2) pa_nil))) ⟨rfl, rfl, rfl, rfl⟩))), ?_⟩
    refine ⟨_, rfl, p, _, dx, _, _, rfl, hp, G.cl, G.nR, lgf_r, wd, rfl, .inr ⟨_, hwd⟩, _, rfl, _, rfl, sz2, fun C hC => ?_⟩
    have s1 := Same.new (.tup ((cK (x, i)).map kV)) (Same.refl H) hC
    refine ⟨_, DGet.r (rd_same hwd s1) (k := cK (x, i)) upd_same, k _ _ s1 ?_⟩
    rw [okW]
    unfold lastW
    cases lastIx (Es.map fun e => e.2.1) (x, i) with
    | none => exact .non
    | some j =>
      show DT _ (ws[j]?.getD .non) (oD W[j]?)
      have d1 := dw.to (.of s1)
      cases hj : W[j]? with
      | none =>
        have : ws[j]? = none := by
          rw [List.getElem?_eq_none_iff] at hj ⊢
          rw [dw.len, List.length_map]
          exact hj
        rw [this]
        exact .non
      | some u =>
        obtain ⟨v, hv, dv⟩ := DTs.get j _ d1 (by rw [List.getElem?_map, hj]; rfl)
        rw [hv]
        exact dv
theorem scLogterm_below : FnScope ["self", "work", "depth", "parts", "array", "cell", "source"] ["self", "work", "depth"] (defScope iLogterm_below) := ⟨rfl, rfl, rfl, by decide +kernel, rfl, by decide +kernel, by decide +kernel⟩
theorem ok_TB {fd : FuncData} (F : FnM K "Log" "term_below" "Log.term_below" iLogterm_below fd) (hbb : Binds K fd ["self", "work", "depth"] []) (cb : Meth K (CLg K) "term_below" (He.ma K (CLg K) "term_below")) (T : LwTx K mg) (G : LgTx K) : ∀ B : Nat, FnOk P w K mg base CX0 B (He.ma K (CLg K) "term_below") fd ["self", "work", "depth"] (spTB K B)
  | 0 => ⟨fun vs H Q E h => by
      obtain ⟨_, _, _, _, _, _, _, h, _⟩ := h
      exact absurd h (Nat.not_lt_zero _), fun A outer s H args us vs Q E hr he hb hv h => by
      obtain ⟨_, _, _, _, _, _, _, h, _⟩ := h
      exact absurd h (Nat.not_lt_zero _)⟩
  | B + 1 => by
    have Fb := ok_TB F hbb cb T G B
    refine F.ok scLogterm_below (fun vs H Q E h => ?_) (fun cdv A outer s H vs Q E hr h => ?_)
    · obtain ⟨p, v, d, w0, W, Es, rfl, _⟩ := h
      rfl
    · obtain ⟨p, v, d, w0, W, Es, rfl, hd, ⟨wt, ct, tt, ws, cs, ts, ⟨dx, nd, wd, nk, wk, hp, hn, okN, hwd, okW⟩, hwt, dw, hct, dc, htt, dt⟩, src, lWE, l3, dv, mem, k⟩ := h
      have hu := hu_of hr
      refine ⟨_, PSs.nox (pss_cons (ps_if (pt_cmpR op_eq (pv 2) pe_int (nomark _)) (pss_one (ps_ret (pv 1))) pss_nil)
      (pss_cons (ps_set (i := 3) scLogterm_below.nd rfl (Or.inl rfl) (pe_lst pa_nil))
      (pss_cons (ps_for PassesOwn.never rfl (pi_tup (pe_ix (ix_tupK (K := K) rfl) (pe_fld (pv 0) rfl) (pe_dget hu (pe_fld (pv 0) rfl) (pv 1) (fun _ _ => rfl)) (fun _ _ => rfl))) (pg_tup (by rfl) (pgs_cons (pg_name (i := 4) scLogterm_below.nd rfl (.inl rfl)) (pgs_cons (pg_name (i := 5) scLogterm_below.nd rfl (.inl rfl)) (pgs_cons (pg_name (i := 6) scLogterm_below.nd rfl (.inl rfl)) pgs_nil)))) (pss_one (ps_expr (pe_bm PySem.F.plainAttrs_list PySem.F.slot_list_append PySem.F.type_list_append mt_append (pv 3) (pa_cons (pe_ifExp (pt_cmpR op_isN (pv 6) pe_non (nomark _)) (pe_tup (pa_cons (pv 4) (pa_cons (pv 5) pa_nil))) (pe_meth (pv 0) G.cl cb Fb hr hbb .nil pass0 (pa_cons (pv 6) (pa_cons (pe_op op_sub (pv 2) pe_int) pa_nil)))) pa_nil)))))
      (pss_one (ps_ret (pe_tup (pa_cons (pv 1) (pa_cons (pe_callTy call_tuple_of (by rfl) T.tuple (by decide +kernel) (pa_cons (pv 3) pa_nil)) pa_nil)))))))), ?_⟩
      have log : LogAt K H p W Es := ⟨wt, ct, tt, ws, cs, ts, ⟨dx, nd, wd, nk, wk, hp, hn, okN, hwd, okW⟩, hwt, dw, hct, dc, htt, dt⟩
      cases d with
      | zero => exact ⟨_, rfl, rfl, _, rfl, iteT ⟨_, rfl, k v H (Same.refl H) dv⟩⟩
      | succ d =>
        obtain ⟨i, hi⟩ := last_in mem
        have hWi := lastIx_at hi
        obtain ⟨e, he⟩ : ∃ e, Es[i]? = some e := ⟨_, List.getElem?_eq_getElem (by
          have := (List.getElem?_eq_some_iff.mp hWi).1
          omega)⟩
        have eT := tbl_at hi he
        have l3e := l3 e (List.mem_of_getElem? he)
        have srcE := src e (List.mem_of_getElem? he)
        have hnum : valV nk (wK w0) = some (.int (i : Nat)) := by
          rw [okN, hi]
          rfl
        rw [termD_succ, eT] at k
        refine ⟨_, rfl, rfl, _, rfl, if_no (decide_eq_false (fun z => by
          have := V.int.inj z
          omega)) ?_⟩
        refine ⟨(by decide), fun D hD => ?_⟩
        have sD := Same.new (.lst []) (Same.refl H) hD
        obtain ⟨H1, eH1⟩ : ∃ X, X = upd H D (.lst []) := ⟨_, rfl⟩
        have eD1 : H1 D = some (.lst []) := by rw [eH1]; exact upd_same
        rw [← eH1] at sD
        rw [← eH1]
        refine normG (σ' := [some (.ref p), some v, some (.int ((d + 1 : Nat) : Int)), some (.ref D), none, none, none]) rfl ?_
        obtain ⟨tw, rfl, htw⟩ := dt_wI dv
        obtain ⟨tv, htv, dtv⟩ := DTs.get i _ dt (by rw [List.getElem?_map, he]; rfl)
        obtain ⟨tq, ks, rfl, htq, dks⟩ := dt_tup dtv
        have lks : ks.length = e.2.2.length := by rw [dks.len, List.length_map]
        refine ⟨_, rfl, p, _, dx, _, _, rfl, sD _ _ hp, G.cl, G.nT, lgf_t, _, rfl, p, _, dx, _, _, rfl, sD _ _ hp, G.cl, G.nN, lgf_n, _, rfl, nd, _, rfl, (hnum ▸ DGet.r (rd_same hn sD) (k := wK w0) (sD _ _ htw)), tt, ts, _, _, rfl, rfl, SqT.of (sD _ _ htt), atI_nat htv, tq, rfl, ⟨_, SqT.of (sD _ _ htq)⟩, ?_⟩
        refine for_tup (K := K) (xs := ks) (fun b σ H' => ∃ (v4 v5 v6 : Option V) (us : List V), σ = [some (.ref p), some (.ref tw), some (.int ((d + 1 : Nat) : Int)), some (.ref D), v4, v5, v6] ∧ H' D = some (.lst us) ∧ DTs H' us ((e.2.2.take b).map (tmD (tbl W Es) d)) ∧ Same H H')
          ⟨_, _, _, [], rfl, eD1, .nil, sD⟩ (fun b σ H' _ z => by
            obtain ⟨_, _, _, _, _, _, _, s⟩ := z
            exact SqT.of (s _ _ htq)) ?_ ?_
        · rintro b kv σ H2 hkv ⟨v4, v5, v6, us, rfl, eD, dD, s2⟩
          obtain ⟨t, ht, dkv⟩ := (dks.to (.of s2)).map' hkv
          obtain ⟨ta, u, rfl, hta, du⟩ := dt_tk dkv
          have lus : us.length ≤ 3 := by
            rw [dD.len, List.length_map, List.length_take]
            omega
          refine ⟨ta, _, rfl, SqT.of hta, rfl, _, _, rfl, ?_⟩
          refine normG (σ' := [some (.ref p), some (.ref tw), some (.int ((d + 1 : Nat) : Int)), some (.ref D), some (.str t.1.1), v5, v6]) rfl ?_
          refine ⟨_, _, rfl, ?_⟩
          refine normG (σ' := [some (.ref p), some (.ref tw), some (.int ((d + 1 : Nat) : Int)), some (.ref D), some (.str t.1.1), some (.int t.1.2), v6]) rfl ?_
          refine ⟨_, _, rfl, ?_⟩
          refine normG (σ' := [some (.ref p), some (.ref tw), some (.int ((d + 1 : Nat) : Int)), some (.ref D), some (.str t.1.1), some (.int t.1.2), some u]) rfl ?_
          refine ⟨rfl, ?_⟩
          have fin : ∀ (x : V) (H3 : Hp), Same H2 H3 → DT H3 x (tmD (tbl W Es) d t) → ∃ (v4 v5 v6 : Option V) (us' : List V), ([some (.ref p), some (.ref tw), some (.int ((d + 1 : Nat) : Int)), some (.ref D), some (.str t.1.1), some (.int t.1.2), some u] : L2.St) = [some (.ref p), some (.ref tw), some (.int ((d + 1 : Nat) : Int)), some (.ref D), v4, v5, v6] ∧
              (upd H3 D (.lst (us ++ [x]))) D = some (.lst us') ∧ DTs (upd H3 D (.lst (us ++ [x]))) us' ((e.2.2.take (b + 1)).map (tmD (tbl W Es) d)) ∧ Same H (upd H3 D (.lst (us ++ [x]))) := by
            intro x H3 s3 dx3
            have tsU : TSame H3 (upd H3 D (.lst (us ++ [x]))) := .updL (s3 _ _ eD)
            refine ⟨_, _, _, us ++ [x], rfl, upd_same, ?_, fun b' o eb => ?_⟩
            · rw [List.take_add_one, ht]
              exact (dD.to ((TSame.of s3).trans tsU)).snoc (dx3.to tsU)
            · rw [upd_ne (ne_of_none eb hD)]
              exact s3 _ _ (s2 _ _ eb)
          refine ⟨_, rfl, .inl ⟨rfl, _, SqL.of eD⟩, _, rfl, rfl, _, rfl, ?_⟩
          unfold tmD at fin
          cases ho : t.2 with
          | none =>
            rw [ho] at du fin
            cases du
            refine if_yes rfl ?_
            refine ⟨_, rfl, _, rfl, sz2, fun C hC => ?_⟩
            have s3 := Same.new (.tup [.str t.1.1, .int t.1.2]) (Same.refl H2) hC
            exact ⟨D, _, _, rfl, rfl, s3 _ _ eD, sz1l _ (by omega), fin _ _ s3 (.tup upd_same (.cons (.str _) (.cons (.int _) .nil)))⟩
          | some w1 =>
            rw [ho] at du fin
            have mem1 := srcE t (List.mem_of_getElem? ht) w1 ho
            have nn : u ≠ .non := fun z => by
              obtain ⟨_, e1, _⟩ := dt_w du
              rw [z] at e1
              cases e1
            refine if_no (decide_eq_false nn) ?_
            refine ⟨_, rfl, p, dx, _, rfl, s2 _ _ hp, lgf_no (by decide +kernel) (by decide +kernel) (by decide +kernel) (by decide +kernel) (by decide +kernel), _, rfl, _, rfl, _, _, rfl, rfl, p, u, d, w1, W, Es, ?_, by omega, log.same s2, src, lWE, l3, du, mem1, fun x H3 s3 dx3 => ⟨D, _, _, rfl, rfl, s3 _ _ eD, sz1l _ (by omega), fin x H3 s3 dx3⟩⟩
            show [V.ref p, u, V.int (((d + 1 : Nat) : Int) - 1)] = _
            rw [show ((d + 1 : Nat) : Int) - 1 = (d : Int) by omega]
        · rintro σ H2 ⟨v4, v5, v6, us, rfl, eD, dD, s2⟩
          rw [lks, List.take_length] at dD
          refine ⟨_, rfl, _, rfl, D, us, rfl, .inl ⟨SqL.of eD, fun tu htu => ?_⟩⟩
          have s3 := Same.new (.tup us) (Same.refl H2) htu
          refine ⟨sz2, fun tr htr => ?_⟩
          have s4 := Same.new (.tup [.ref tw, .ref tu]) (Same.refl (upd H2 tu (.tup us))) htr
          refine k _ _ (s2.trans (s3.trans s4)) (.tup upd_same (.cons (dv.to (.of (s2.trans (s3.trans s4)))) (.cons (.tup (s4 _ _ upd_same) (dD.to (.of (s3.trans s4)))) .nil)))
theorem scLogterm_of : FnScope ["self", "work", "depth"] ["self", "work", "depth"] (defScope iLogterm_of) := ⟨rfl, rfl, rfl, by decide +kernel, rfl, by decide +kernel, by decide +kernel⟩
theorem ok_TO {fd fb : FuncData} (F : FnM K "Log" "term_of" "Log.term_of" iLogterm_of fd) (Fb : FnOk P w K mg base CX0 5 (He.ma K (CLg K) "term_below") fb ["self", "work", "depth"] (spTB K 5)) (hbb : Binds K fb ["self", "work", "depth"] []) (cb : Meth K (CLg K) "term_below" (He.ma K (CLg K) "term_below")) (T : LwTx K mg) (G : LgTx K)
    (MW : Mx P w K mg base "NoWork" ["self", "work"] ["work"]) (MB : Mx P w K mg base "BadNumber" ["self", "what", "number"] ["what", "number"]) (hMOST_DEPTH : ∃ t, mg "MOST_DEPTH" = some (.int 4 t)) (dIsIntFrom : Dn P w K mg base 2 "is_integer_from" ["value", "low", "high"] spIntFrom) :
    FnOk P w K mg base (L2.CX P w) 6 (He.ma K (CLg K) "term_of") fd ["self", "work", "depth"] (spTO K) := by
  refine F.ok scLogterm_of (fun vs H Q E h => ?_) (fun cdv A outer s H vs Q E hr h => ?_)
  · obtain ⟨p, tw, d, w0, W, Es, rfl, _⟩ := h
    rfl
  · obtain ⟨p, tw, d, w0, W, Es, rfl, log, src, lWE, l3, htw, k1, k2, k3⟩ := h
    have log0 := log
    obtain ⟨wt, ct, tt, ws, cs, ts, ⟨dx, nd, wd, nk, wk, hp, hn, okN, hwd, okW⟩, hwt, dw, hct, dc, htt, dt⟩ := log
    have hu := hu_of hr
    obtain ⟨tMOST_DEPTH, hMOST_DEPTH⟩ := hMOST_DEPTH
    refine ⟨_, (pss_cons (ps_if (pt_cmp (pc_dnotin hu (pe_callTy call_tuple_of (by rfl) T.tuple (by decide +kernel) (pa_cons (pv 1) pa_nil)) (pe_fld (pv 0) rfl))) (pss_one (ps_raise rfl (takes_of rfl rfl rfl rfl) (pmk_err MW hr (pa_cons (pv 1) pa_nil)))) pss_nil)
      (pss_cons (ps_if (pt_not (pt_val (pe_dn dIsIntFrom hr (pa_cons (pv 2) (pa_cons pe_int (pa_cons (pe_glob (v := .int 4) rfl hMOST_DEPTH ⟨tMOST_DEPTH, rfl⟩) pa_nil)))))) (pss_one (ps_raise rfl (takes_of rfl rfl rfl rfl) (pmk_err MB hr (pa_cons pe_str (pa_cons (pv 2) pa_nil))))) pss_nil)
      (pss_one (ps_ret (pe_meth (pv 0) G.cl cb Fb (hr.mono (by decide)) hbb .nil pass0 (pa_cons (pe_callTy call_tuple_of (by rfl) T.tuple (by decide +kernel) (pa_cons (pv 1) pa_nil)) (pa_cons (pv 2) pa_nil))))))), ?_⟩
    refine ⟨_, rfl, tw, _, rfl, .inr ⟨SqT.of htw, _, rfl, p, _, dx, _, _, rfl, hp, G.cl, G.nN, lgf_n, nd, _, rfl, DGet.r hn (k := wK w0) htw, _, rfl, ?_⟩⟩
    rw [okN]
    by_cases mem : w0 ∈ W
    · obtain ⟨i, hi⟩ := last_in mem
      rw [hi]
      refine if_no rfl ?_
      refine ⟨_, rfl, _, _, _, rfl, ?_⟩
      by_cases hd : 0 ≤ d ∧ d ≤ 4
      · rw [decide_eq_true hd]
        refine ⟨_, rfl, iteF ?_⟩
        exact ⟨_, rfl, p, dx, _, rfl, hp, lgf_no (by decide +kernel) (by decide +kernel) (by decide +kernel) (by decide +kernel) (by decide +kernel), _, rfl, tw, _, rfl, .inr ⟨SqT.of htw, _, rfl, p, .ref tw, d.toNat, w0, W, Es, by rw [Int.toNat_of_nonneg hd.1]; rfl, by omega, log0, src, lWE, l3, .tup htw (.cons (.int _) (.cons (.int _) (.cons (.int _) .nil))), mem, k3 mem hd⟩⟩
      · rw [decide_eq_false hd]
        exact ⟨_, rfl, iteT ⟨_, rfl, err_go (K := K) (x := "BadNumber") (fs := ["what", "number"]) (vs := [.str "depth", .int d]) (H1 := H) (Q := E) (by show 2 ≤ 1000; decide) rfl (k2 mem hd)⟩⟩
    · cases hi : lastIx W w0 with
      | some i => exact absurd (List.mem_of_getElem? (lastIx_at hi)) mem
      | none =>
        refine if_yes rfl ?_
        exact ⟨_, rfl, err_go (K := K) (x := "NoWork") (fs := ["work"]) (vs := [.ref tw]) (H1 := H) (Q := E) (by show 1 ≤ 1000; decide) rfl (k1 mem)⟩
end
end K26
set_option maxHeartbeats 4000000
namespace K26
open PySem PySem.Spec PyProof.Rows L2 Z
theorem call_len_seqK {X : Cx} {K : PySem.W.Frag} (hK : X.K = K) : CallR X (.builtin "len") (fun xs H Q => ∃ p ys, xs = [V.ref p] ∧ (SqL K H p ys ∨ SqT K H p ys) ∧ Q (V.int (ys.length : Nat)) H) := hK ▸ call_len_seq
theorem look1 {x : Str} {v : V} {r : List (Str × V)} : ((x, v) :: r).lookup x = some v := by simp [List.lookup_cons]
theorem look2 {v y : V} : ([("number", y), ("what", v)] : List (Str × V)).lookup ("what" : Str) = some v := by
  rw [List.lookup_cons, show ((("what" : Str) == "number") = false) by decide +kernel]
  exact look1
structure RErTx (K : PySem.W.Frag) (mg : Str → Option Value) : Prop where
  EZ : EC K mg "BadSize" ["n"]
  EL : EC K mg "TooLong" ["many"]
  EW : EC K mg "NoWork" ["work"]
  EB : EC K mg "BadNumber" ["what", "number"]
  xZZ : PySem.W.exmOne K (.ref (He.ga K "BadSize")) (.ref (He.ga K "BadSize")) = some true
  xLL : PySem.W.exmOne K (.ref (He.ga K "TooLong")) (.ref (He.ga K "TooLong")) = some true
  xLZ : PySem.W.exmOne K (.ref (He.ga K "TooLong")) (.ref (He.ga K "BadSize")) = some false
  xWW : PySem.W.exmOne K (.ref (He.ga K "NoWork")) (.ref (He.ga K "NoWork")) = some true
  xBW : PySem.W.exmOne K (.ref (He.ga K "BadNumber")) (.ref (He.ga K "NoWork")) = some false
  xBB : PySem.W.exmOne K (.ref (He.ga K "BadNumber")) (.ref (He.ga K "BadNumber")) = some true
def TupBack (H : Hp) (Q : VK) (xs : List V) : Prop := ∀ t H', Same H H' → H' t = some (.tup xs) → Q (.ref t) H'
def spTold (K : PySem.W.Frag) : Sp := fun vs H Q _ => ∃ (v nv : V) (ls : List LpM), vs = [v, nv] ∧ PrOb K H v ls ∧ ls.length ≤ 3 ∧ (∀ l ∈ ls, LpOk l) ∧
  ((IntV H nv false ∧ TupBack H Q [.str "size", nv]) ∨ ∃ n : Int, nv = .int n ∧ (¬ (0 ≤ n ∧ n ≤ TOP) → TupBack H Q [.str "size", .int n]) ∧
    (0 ≤ n ∧ n ≤ TOP → (20000 < tot ls n → TupBack H Q [.str "long", .int (tot ls n)]) ∧ (tot ls n ≤ 20000 → ∀ m H', Same H H' → Q (.int m) H')))
def spTermT (K : PySem.W.Frag) : Sp := fun vs H Q _ => ∃ (p tw : Addr) (d : Int) (w : W3) (W : List W3) (Es : List Ent), vs = [.ref p, .ref tw, .int d] ∧ LogAt K H p W Es ∧ Src W Es ∧ W.length = Es.length ∧ (∀ e ∈ Es, e.2.2.length ≤ 3) ∧ H tw = some (.tup ((wK w).map kV)) ∧
  (w ∉ W → TupBack H Q [.str "none", .ref tw]) ∧ (w ∈ W → ¬ (0 ≤ d ∧ d ≤ 4) → TupBack H Q [.str "depth", .int d]) ∧ (w ∈ W → 0 ≤ d ∧ d ≤ 4 → ∀ v' H', Same H H' → DT H' v' (termD (tbl W Es) d.toNat w) → Q v' H')
section
variable {P : Program} {w : World} {K : PySem.W.Frag} {mg : Str → Option Value} {base : Heap}
theorem sc_law_told : FnScope ["_law_program", "_law_n", "_law_told_here", "e"] ["_law_program", "_law_n"] (defScope s_law_told) := ⟨rfl, rfl, rfl, by decide +kernel, rfl, by decide +kernel, by decide +kernel⟩
theorem ok_told {f : Addr} {fd : FuncData} (F : FnP K "_law_told" s_law_told f fd) (T : LwTx K mg) (G : LgTx K) (R : RErTx K mg) (dLogP : Dx P w K mg base 6 "log_program" ["program", "n"] (spLogP K)) : FnOk P w K mg base CX0 7 f fd ["_law_program", "_law_n"] (spTold K) := by
  refine F.ok sc_law_told (fun vs H Q E h => ?_) (fun cdv A outer s H vs Q E hr h => ?_)
  · obtain ⟨v, nv, ls, rfl, _⟩ := h
    rfl
  · obtain ⟨v, nv, ls, rfl, ob, l3, ok, k⟩ := h
    refine ⟨_, PSs.nox (pss_cons (ps_set (i := 2) sc_law_told.nd rfl (Or.inl rfl) pe_non)
      (pss_cons (ps_try_asMany rfl rfl sc_law_told.nd takes0 (fun W pn xe tk _ => (pss_one (ps_set (i := 2) sc_law_told.nd rfl (Or.inl rfl) (pe_callB (call_len_seqK (K := K) rfl) (by rfl) T.len PySem.boot_len (pa_cons (pe_fldK (K := K) rfl (pe_dx (K := K) dLogP rfl hr (fun σ => passAt tk σ) (pa_cons (pv 0) (pa_cons (pv 1) pa_nil)))) pa_nil))))) (Clauses.cons (i := 3) rfl rfl ⟨rfl, by decide, .inl R.EZ.gC⟩ (fun a oe cls d pn hz hf => (pss_one (ps_set (i := 2) sc_law_told.nd rfl (Or.inl rfl) (pe_tup (pa_cons pe_str (pa_cons (pe_xf R.EZ.ex.xf (R.EZ.na _ (by simp)) hz hf (pv 3)) pa_nil)))))) (Clauses.cons (i := 3) rfl rfl ⟨rfl, by decide, .inl R.EL.gC⟩ (fun a oe cls d pn hz hf => (pss_one (ps_set (i := 2) sc_law_told.nd rfl (Or.inl rfl) (pe_tup (pa_cons pe_str (pa_cons (pe_xf R.EL.ex.xf (R.EL.na _ (by simp)) hz hf (pv 3)) pa_nil)))))) Clauses.nil)))
      (pss_one (ps_ret (pv 2))))), ?_⟩
    refine normG (i := 2) (v := .non) (σ := [some v, some nv, none, none]) (σ' := [some v, some nv, some .non, none]) rfl ?_
    dsimp only
    refine mid (fun σ' H' => ∃ u, σ' = [some v, some nv, some u, none] ∧ Q u H') (fun key => ?_) ?_
    · refine ⟨_, rfl, _, rfl, v, nv, ls, rfl, ob, l3, ok, ?_⟩
      rcases k with ⟨iv, k⟩ | ⟨n, rfl, k1, k2⟩
      · exact .inl ⟨iv, (fun d H2 s2 hd => ⟨true, R.xZZ, fun _ a ha => ⟨_, rfl, rfl, rfl, d, _, _, rfl, (show H2 d = some (.xd [("n", nv)]) from hd), look1, sz2, fun t ht => key _ _ ⟨_, rfl, k _ _ (Same.new _ s2 ht) upd_same⟩⟩, fun q => Bool.noConfusion q⟩)⟩
      · refine .inr ⟨n, rfl, fun hn => (fun d H2 s2 hd => ⟨true, R.xZZ, fun _ a ha => ⟨_, rfl, rfl, rfl, d, _, _, rfl, (show H2 d = some (.xd [("n", .int n)]) from hd), look1, sz2, fun t ht => key _ _ ⟨_, rfl, k1 hn _ _ (Same.new _ s2 ht) upd_same⟩⟩, fun q => Bool.noConfusion q⟩), fun hn => ⟨fun hm d H2 s2 hd => ?_, fun hm p H2 s2 log => ?_⟩⟩
        · exact ⟨false, R.xLZ, fun q => Bool.noConfusion q, fun _ => ⟨true, R.xLL, fun _ a ha => ⟨_, rfl, rfl, rfl, d, _, _, rfl, (show H2 d = some (.xd [("many", .int (tot ls n))]) from hd), look1, sz2, fun t ht => key _ _ ⟨_, rfl, (k2 hn).1 hm _ _ (Same.new _ s2 ht) upd_same⟩⟩, fun q => Bool.noConfusion q⟩⟩
        · obtain ⟨wt, ct, tt, ws, cs, ts, ⟨dx, nd, wd, nk, wk, hp, _⟩, hwt, _⟩ := log
          exact ⟨p, _, dx, _, _, rfl, hp, G.cl, G.nW, lgf_w, wt, ws, rfl, .inr (SqT.of hwt), key _ _ ⟨_, rfl, (k2 hn).2 hm _ _ s2⟩⟩
    · rintro σ H3 ⟨u, rfl, q⟩
      exact ⟨_, rfl, q⟩
theorem sc_law_term_told : FnScope ["_law_log_here", "_law_work", "_law_depth", "_law_told_here", "e"] ["_law_log_here", "_law_work", "_law_depth"] (defScope s_law_term_told) := ⟨rfl, rfl, rfl, by decide +kernel, rfl, by decide +kernel, by decide +kernel⟩
theorem ok_termT {f : Addr} {fd fo : FuncData} (F : FnP K "_law_term_told" s_law_term_told f fd) (T : LwTx K mg) (G : LgTx K) (R : RErTx K mg) (Fo : FnOk P w K mg base (L2.CX P w) 6 (He.ma K (CLg K) "term_of") fo ["self", "work", "depth"] (spTO K)) (hbo : Binds K fo ["self", "work", "depth"] []) (co : Meth K (CLg K) "term_of" (He.ma K (CLg K) "term_of")) :
    FnOk P w K mg base CX0 7 f fd ["_law_log_here", "_law_work", "_law_depth"] (spTermT K) := by
  refine F.ok sc_law_term_told (fun vs H Q E h => ?_) (fun cdv A outer s H vs Q E hr h => ?_)
  · obtain ⟨p, tw, d, w0, W, Es, rfl, _⟩ := h
    rfl
  · obtain ⟨p, tw, d, w0, W, Es, rfl, log, src, lWE, l3, htw, k1, k2, k3⟩ := h
    have log0 := log
    obtain ⟨wt, ct, tt, ws, cs, ts, ⟨dx, nd, wd, nk, wk, hp, _⟩, _⟩ := log
    refine ⟨_, PSs.nox (pss_cons (ps_set (i := 3) sc_law_term_told.nd rfl (Or.inl rfl) pe_non)
      (pss_cons (ps_try_asMany rfl rfl sc_law_term_told.nd takes0 (fun W pn xe tk _ => (pss_one (ps_set (i := 3) sc_law_term_told.nd rfl (Or.inl rfl) (pe_methT tk rfl (pv 0) G.cl co Fo (hr.mono (by decide)) hbo (pa_cons (pv 1) (pa_cons (pv 2) pa_nil)))))) (Clauses.cons (i := 4) rfl rfl ⟨rfl, by decide, .inl R.EW.gC⟩ (fun a oe cls d pn hz hf => (pss_one (ps_set (i := 3) sc_law_term_told.nd rfl (Or.inl rfl) (pe_tup (pa_cons pe_str (pa_cons (pe_xf R.EW.ex.xf (R.EW.na _ (by simp)) hz hf (pv 4)) pa_nil)))))) (Clauses.cons (i := 4) rfl rfl ⟨rfl, by decide, .inl R.EB.gC⟩ (fun a oe cls d pn hz hf => (pss_one (ps_set (i := 3) sc_law_term_told.nd rfl (Or.inl rfl) (pe_tup (pa_cons (pe_xf R.EB.ex.xf (R.EB.na _ (by simp)) hz hf (pv 4)) (pa_cons (pe_xf R.EB.ex.xf (R.EB.na _ (by simp)) hz hf (pv 4)) pa_nil)))))) Clauses.nil)))
      (pss_one (ps_ret (pv 3))))), ?_⟩
    refine normG (i := 3) (v := .non) (σ := [some (.ref p), some (.ref tw), some (.int d), none, none]) (σ' := [some (.ref p), some (.ref tw), some (.int d), some .non, none]) rfl ?_
    dsimp only
    refine mid (fun σ' H' => ∃ u, σ' = [some (.ref p), some (.ref tw), some (.int d), some u, none] ∧ Q u H') (fun key => ?_) ?_
    · refine ⟨_, rfl, p, dx, _, rfl, hp, lgf_no (by decide +kernel) (by decide +kernel) (by decide +kernel) (by decide +kernel) (by decide +kernel), _, rfl, _, rfl, p, tw, d, w0, W, Es, rfl, log0, src, lWE, l3, htw, fun nm e H2 s2 he => ?_, fun mm nd e H2 s2 he => ?_, fun mm hd v' H2 s2 dv => ?_⟩
      · exact ⟨true, R.xWW, fun _ a ha => ⟨_, rfl, rfl, rfl, e, _, _, rfl, (show H2 e = some (.xd [("work", .ref tw)]) from he), look1, sz2, fun t ht => key _ _ ⟨_, rfl, k1 nm _ _ (Same.new _ s2 ht) upd_same⟩⟩, fun q => Bool.noConfusion q⟩
      · exact ⟨false, R.xBW, fun q => Bool.noConfusion q, fun _ => ⟨true, R.xBB, fun _ a ha => ⟨_, rfl, rfl, rfl, e, _, _, rfl, (show H2 e = some (.xd [("number", .int d), ("what", .str "depth")]) from he), look2, _, rfl, rfl, rfl, e, _, _, rfl, (show H2 e = some (.xd [("number", .int d), ("what", .str "depth")]) from he), look1, sz2, fun t ht => key _ _ ⟨_, rfl, k2 mm nd _ _ (Same.new _ s2 ht) upd_same⟩⟩, fun q => Bool.noConfusion q⟩⟩
      · exact key _ _ ⟨_, rfl, k3 mm hd _ _ s2 dv⟩
    · rintro σ H3 ⟨u, rfl, q⟩
      exact ⟨_, rfl, q⟩
end
end K26
set_option maxHeartbeats 4000000
namespace K26
open PySem PySem.Spec PyProof.Rows L2 Z
/-- data that may be laid, so deep at most -/
def Lay (k : Nat) (d : PyData) : Prop := d.canLay0 = true ∧ d.depth ≤ k
theorem lay_all {k : Nat} : ∀ {ds : List PyData}, (∀ d ∈ ds, Lay k d) → PyData.canLayAll0 ds = true ∧ PyData.depthAll ds ≤ k
  | [], _ => ⟨rfl, Nat.zero_le _⟩
  | d :: ds, h => by
    have h1 := h d List.mem_cons_self
    have h2 := lay_all fun e he => h e (List.mem_cons_of_mem _ he)
    exact ⟨by simp only [PyData.canLayAll0, h1.1, h2.1, Bool.and_self], by
      have a := h1.2
      have b := h2.2
      simp only [PyData.depthAll]
      omega⟩
theorem Lay.tup {k : Nat} {ds : List PyData} (h : ∀ d ∈ ds, Lay k d) : Lay (k + 1) (.tuple ds) := by
  have := lay_all h
  exact ⟨by simpa [PyData.canLay0] using this.1, by
    have a := this.2
    simp only [PyData.depth]
    omega⟩
theorem Lay.mono {k l : Nat} {d : PyData} (h : Lay k d) (e : k ≤ l) : Lay l d := ⟨h.1, Nat.le_trans h.2 e⟩
theorem Lay.shaped {k : Nat} {d : PyData} (h : Lay k d) (e : k ≤ 64) : SeqAt.shaped d = true := by
  unfold SeqAt.shaped
  rw [h.1, decide_eq_true (Nat.le_trans h.2 e)]
  rfl
theorem lay_int (i : Int) : Lay 0 (.int i) := ⟨rfl, by simp [PyData.depth]⟩
theorem lay_non : Lay 0 .none := ⟨rfl, by simp [PyData.depth]⟩
theorem lay_str {x : Str} (h : PyData.strOk x = true) : Lay 0 (.str x) := ⟨by simpa [PyData.canLay0] using h, by simp [PyData.depth]⟩
theorem nm_str {x : Str} (h : NmOk x) : PyData.strOk x = true := by
  have h1 := h.1
  unfold isName at h1
  simp only [Bool.and_eq_true, List.all_eq_true, decide_eq_true_eq] at h1
  have few : ∀ c ∈ lets.cps.toList, c < 0x110000 := by decide +kernel
  unfold PyData.strOk
  rw [← Array.all_toList, List.all_eq_true]
  intro c hc
  exact decide_eq_true (few c (h1.2.1 c hc))
theorem lay_w (w : W3) : Lay 1 (wD w) := Lay.tup fun d h => by
  simp only [List.mem_cons, List.not_mem_nil, or_false] at h
  rcases h with rfl | rfl | rfl <;> exact lay_int _
theorem lay_c {c : Cell} (h : NmOk c.1) : Lay 1 (cD c) := Lay.tup fun d z => by
  simp only [List.mem_cons, List.not_mem_nil, or_false] at z
  rcases z with rfl | rfl
  · exact lay_str (nm_str h)
  · exact lay_int _
theorem lay_o (o : Option W3) : Lay 1 (oD o) := by
  cases o with
  | none => exact lay_non.mono (by decide)
  | some w => exact lay_w w
theorem lay_t {t : Take} (h : NmOk t.1.1) : Lay 2 (tkD t) := Lay.tup fun d z => by
  simp only [List.mem_cons, List.not_mem_nil, or_false] at z
  rcases z with rfl | rfl | rfl
  · exact (lay_str (nm_str h)).mono (by decide)
  · exact (lay_int _).mono (by decide)
  · exact lay_o t.2
def EntOk (e : Ent) : Prop := NmOk e.2.1.1 ∧ e.2.2.length ≤ 3 ∧ ∀ t ∈ e.2.2, NmOk t.1.1
theorem lg_ok {ls : List LpM} {n : Int} (ok : ∀ l ∈ ls, LpOk l) : ∀ {i : Nat}, i ≤ (works ls n).length → ∀ e ∈ (lg ls n ((works ls n).take i)).1, EntOk e
  | 0, _, _, h => (List.not_mem_nil h).elim
  | i + 1, h, e, he => by
    have hw := List.getElem?_eq_getElem (l := works ls n) (i := i) h
    obtain ⟨j, q, l, s, hj, hq, hl, _, hs⟩ := works_mem (List.mem_of_getElem? hw)
    have oks : StOk s := by
      obtain ⟨_, _, _, _, _, _, _, _, _, _, _, _, _, _, _, _, _, okS⟩ := ok l (List.mem_of_getElem? hl)
      exact okS s (List.mem_of_getElem? hs)
    obtain ⟨nm, _, _, _, lr, _, okr, _⟩ := oks
    rw [lg_succ hw (stAt_of hj hq hl hs)] at he
    rcases List.mem_append.mp he with z | z
    · exact lg_ok ok (Nat.le_of_lt h) e z
    · rw [List.mem_singleton.mp z]
      refine ⟨nm, by unfold tks; rw [List.length_map]; exact lr, fun t ht => ?_⟩
      obtain ⟨r, hr, rfl⟩ := List.mem_map.mp ht
      exact (okr r hr).1
theorem lg_allok {ls : List LpM} {n : Int} (ok : ∀ l ∈ ls, LpOk l) : ∀ e ∈ (lg ls n (works ls n)).1, EntOk e := by
  have h := lg_ok (n := n) ok (Nat.le_refl _)
  rwa [List.take_length] at h
theorem tbl_mem {W : List W3} {Es : List Ent} {w : W3} {t : Take} (h : t ∈ tbl W Es w) : ∃ e ∈ Es, t ∈ e.2.2 := by
  unfold tbl at h
  cases hi : (lastIx W w).bind fun i => Es[i]? with
  | none =>
    rw [hi] at h
    cases h
  | some e =>
    rw [hi] at h
    obtain ⟨i, _, he⟩ := Option.bind_eq_some_iff.mp hi
    exact ⟨e, List.mem_of_getElem? he, h⟩
theorem lay_term {W : List W3} {Es : List Ent} (ok : ∀ e ∈ Es, EntOk e) : ∀ {d : Nat} {w : W3}, Lay (2 * d + 1) (termD (tbl W Es) d w)
  | 0, w => lay_w w
  | d + 1, w => by
    rw [termD_succ]
    refine Lay.tup fun x hx => ?_
    simp only [List.mem_cons, List.not_mem_nil, or_false] at hx
    rcases hx with rfl | rfl
    · exact (lay_w w).mono (by omega)
    · refine Lay.tup (k := 2 * d + 1) fun y hy => ?_
      obtain ⟨t, ht, rfl⟩ := List.mem_map.mp hy
      obtain ⟨e, he, hte⟩ := tbl_mem ht
      unfold tmD
      cases t.2 with
      | none => exact (lay_c ((ok e he).2.2 t hte)).mono (by omega)
      | some u => exact lay_term ok
/-- a name that no cell has was never written -/
theorem lastW_no {W : List W3} {Es : List Ent} (ok : ∀ e ∈ Es, EntOk e) {c : Cell} (h : ¬ NmOk c.1) : lastW W Es c = none := by
  unfold lastW
  cases hi : lastIx (Es.map fun e => e.2.1) c with
  | none => rfl
  | some i =>
    obtain ⟨e, he, hc⟩ := List.mem_map.mp (List.mem_of_getElem? (lastIx_at hi))
    exact absurd (hc ▸ (ok e he).1) h
/-- the law's table: what each work took -/
def TabOk (H : Hp) (kt : List (List Key × V)) (W : List W3) (f : W3 → List Take) : Prop := ∀ w ∈ W, ∃ v, valV kt (wK w) = some v ∧ DT H v (.tuple ((f w).map tkD))
theorem TabOk.to {H H' : Hp} {kt : List (List Key × V)} {W : List W3} {f : W3 → List Take} (h : TabOk H kt W f) (s : TSame H H') : TabOk H' kt W f := fun w hw => by
  obtain ⟨v, e, d⟩ := h w hw
  exact ⟨v, e, d.to s⟩
def spLT (B : Nat) : Sp := fun vs H Q _ => ∃ (r : Addr) (v : V) (d : Nat) (w : W3) (kt : List (List Key × V)) (W : List W3) (f : W3 → List Take), vs = [.ref r, v, .int (d : Int)] ∧ d < B ∧ H r = some (.dT kt) ∧ TabOk H kt W f ∧ (∀ w ∈ W, (f w).length ≤ 3 ∧ ∀ t ∈ f w, ∀ u, t.2 = some u → u ∈ W) ∧ DT H v (wD w) ∧ w ∈ W ∧
  ∀ v' H', Same H H' → DT H' v' (termD f d w) → Q v' H'
section
variable {P : Program} {w : World} {K : PySem.W.Frag} {mg : Str → Option Value} {base : Heap}
theorem sc_law_term : FnScope ["_law_rows", "_law_work", "_law_depth", "_law_parts", "_law_array", "_law_cell", "_law_source"] ["_law_rows", "_law_work", "_law_depth"] (defScope s_law_term) := ⟨rfl, rfl, rfl, by decide +kernel, rfl, by decide +kernel, by decide +kernel⟩
theorem ok_lterm {f : Addr} {fd : FuncData} (F : FnP K "_law_term" s_law_term f fd) (hm : mg "_law_term" = some (.ref f)) (hk : PySem.W.keepIn K (.ref f) = true) (hb : Binds K fd ["_law_rows", "_law_work", "_law_depth"] []) (T : LwTx K mg) : ∀ B : Nat, FnOk P w K mg base CX0 B f fd ["_law_rows", "_law_work", "_law_depth"] (spLT B)
  | 0 => ⟨fun vs H Q E h => by
      obtain ⟨_, _, _, _, _, _, _, _, h, _⟩ := h
      exact absurd h (Nat.not_lt_zero _), fun A outer s H args us vs Q E hr he hb hv h => by
      obtain ⟨_, _, _, _, _, _, _, _, h, _⟩ := h
      exact absurd h (Nat.not_lt_zero _)⟩
  | B + 1 => by
    have dTerm : Dn P w K mg base B "_law_term" ["_law_rows", "_law_work", "_law_depth"] (spLT B) := ⟨f, fd, ok_lterm F hm hk hb T B, hm, hk, hb⟩
    refine F.ok sc_law_term (fun vs H Q E h => ?_) (fun cdv A outer s H vs Q E hr h => ?_)
    · obtain ⟨r, v, d, w0, kt, W, g, rfl, _⟩ := h
      rfl
    · obtain ⟨r, v, d, w0, kt, W, g, rfl, hd, hr0, tab, cl, dv, mem, k⟩ := h
      have hu := hu_of hr
      refine ⟨_, PSs.nox (pss_cons (ps_if (pt_cmpR op_eq (pv 2) pe_int (nomark _)) (pss_one (ps_ret (pv 1))) pss_nil)
      (pss_cons (ps_set (i := 3) sc_law_term.nd rfl (Or.inl rfl) (pe_lst pa_nil))
      (pss_cons (ps_for PassesOwn.never rfl (pi_tup (pe_dget hu (pv 0) (pv 1) (fun _ _ => rfl))) (pg_tup (by rfl) (pgs_cons (pg_name (i := 4) sc_law_term.nd rfl (.inl rfl)) (pgs_cons (pg_name (i := 5) sc_law_term.nd rfl (.inl rfl)) (pgs_cons (pg_name (i := 6) sc_law_term.nd rfl (.inl rfl)) pgs_nil)))) (pss_one (ps_expr (pe_bm PySem.F.plainAttrs_list PySem.F.slot_list_append PySem.F.type_list_append mt_append (pv 3) (pa_cons (pe_ifExp (pt_cmpR op_isN (pv 6) pe_non (nomark _)) (pe_tup (pa_cons (pv 4) (pa_cons (pv 5) pa_nil))) (pe_dn dTerm hr (pa_cons (pv 0) (pa_cons (pv 6) (pa_cons (pe_op op_sub (pv 2) pe_int) pa_nil))) (hjk := Nat.le_refl _))) pa_nil)))))
      (pss_one (ps_ret (pe_tup (pa_cons (pv 1) (pa_cons (pe_callTy call_tuple_of (by rfl) T.tuple (by decide +kernel) (pa_cons (pv 3) pa_nil)) pa_nil)))))))), ?_⟩
      cases d with
      | zero => exact ⟨_, rfl, rfl, _, rfl, iteT ⟨_, rfl, k v H (Same.refl H) dv⟩⟩
      | succ d =>
        obtain ⟨tv, htab, dtv⟩ := tab w0 mem
        obtain ⟨l3e, srcE⟩ := cl w0 mem
        rw [termD_succ] at k
        refine ⟨_, rfl, rfl, _, rfl, if_no (decide_eq_false (fun z => by
          have := V.int.inj z
          omega)) ?_⟩
        refine ⟨(by decide), fun D hD => ?_⟩
        have sD := Same.new (.lst []) (Same.refl H) hD
        obtain ⟨H1, eH1⟩ : ∃ X, X = upd H D (.lst []) := ⟨_, rfl⟩
        have eD1 : H1 D = some (.lst []) := by rw [eH1]; exact upd_same
        rw [← eH1] at sD
        rw [← eH1]
        refine normG (σ' := [some (.ref r), some v, some (.int ((d + 1 : Nat) : Int)), some (.ref D), none, none, none]) rfl ?_
        obtain ⟨tw, rfl, htw⟩ := dt_wI dv
        obtain ⟨tq, ks, rfl, htq, dks⟩ := dt_tup dtv
        have lks : ks.length = (g w0).length := by rw [dks.len, List.length_map]
        refine ⟨_, rfl, _, rfl, r, _, rfl, (htab ▸ DGet.t (sD _ _ hr0) (k := wK w0) (sD _ _ htw)), tq, rfl, ⟨_, SqT.of (sD _ _ htq)⟩, ?_⟩
        refine for_tup (K := K) (xs := ks) (fun b σ H' => ∃ (v4 v5 v6 : Option V) (us : List V), σ = [some (.ref r), some (.ref tw), some (.int ((d + 1 : Nat) : Int)), some (.ref D), v4, v5, v6] ∧ H' D = some (.lst us) ∧ DTs H' us (((g w0).take b).map (tmD g d)) ∧ Same H H')
          ⟨_, _, _, [], rfl, eD1, .nil, sD⟩ (fun b σ H' _ z => by
            obtain ⟨_, _, _, _, _, _, _, s⟩ := z
            exact SqT.of (s _ _ htq)) ?_ ?_
        · rintro b kv σ H2 hkv ⟨v4, v5, v6, us, rfl, eD, dD, s2⟩
          obtain ⟨t, ht, dkv⟩ := (dks.to (.of s2)).map' hkv
          obtain ⟨ta, u, rfl, hta, du⟩ := dt_tk dkv
          have lus : us.length ≤ 3 := by
            rw [dD.len, List.length_map, List.length_take]
            omega
          refine ⟨ta, _, rfl, SqT.of hta, rfl, _, _, rfl, ?_⟩
          refine normG (σ' := [some (.ref r), some (.ref tw), some (.int ((d + 1 : Nat) : Int)), some (.ref D), some (.str t.1.1), v5, v6]) rfl ?_
          refine ⟨_, _, rfl, ?_⟩
          refine normG (σ' := [some (.ref r), some (.ref tw), some (.int ((d + 1 : Nat) : Int)), some (.ref D), some (.str t.1.1), some (.int t.1.2), v6]) rfl ?_
          refine ⟨_, _, rfl, ?_⟩
          refine normG (σ' := [some (.ref r), some (.ref tw), some (.int ((d + 1 : Nat) : Int)), some (.ref D), some (.str t.1.1), some (.int t.1.2), some u]) rfl ?_
          refine ⟨rfl, ?_⟩
          have fin : ∀ (x : V) (H3 : Hp), Same H2 H3 → DT H3 x (tmD g d t) → ∃ (v4 v5 v6 : Option V) (us' : List V), ([some (.ref r), some (.ref tw), some (.int ((d + 1 : Nat) : Int)), some (.ref D), some (.str t.1.1), some (.int t.1.2), some u] : L2.St) = [some (.ref r), some (.ref tw), some (.int ((d + 1 : Nat) : Int)), some (.ref D), v4, v5, v6] ∧
              (upd H3 D (.lst (us ++ [x]))) D = some (.lst us') ∧ DTs (upd H3 D (.lst (us ++ [x]))) us' (((g w0).take (b + 1)).map (tmD g d)) ∧ Same H (upd H3 D (.lst (us ++ [x]))) := by
            intro x H3 s3 dx3
            have tsU : TSame H3 (upd H3 D (.lst (us ++ [x]))) := .updL (s3 _ _ eD)
            refine ⟨_, _, _, us ++ [x], rfl, upd_same, ?_, fun b' o eb => ?_⟩
            · rw [List.take_add_one, ht]
              exact (dD.to ((TSame.of s3).trans tsU)).snoc (dx3.to tsU)
            · rw [upd_ne (ne_of_none eb hD)]
              exact s3 _ _ (s2 _ _ eb)
          refine ⟨_, rfl, .inl ⟨rfl, _, SqL.of eD⟩, _, rfl, rfl, _, rfl, ?_⟩
          unfold tmD at fin
          cases ho : t.2 with
          | none =>
            rw [ho] at du fin
            cases du
            refine if_yes rfl ?_
            refine ⟨_, rfl, _, rfl, sz2, fun C hC => ?_⟩
            have s3 := Same.new (.tup [.str t.1.1, .int t.1.2]) (Same.refl H2) hC
            exact ⟨D, _, _, rfl, rfl, s3 _ _ eD, sz1l _ (by omega), fin _ _ s3 (.tup upd_same (.cons (.str _) (.cons (.int _) .nil)))⟩
          | some w1 =>
            rw [ho] at du fin
            have mem1 := srcE t (List.mem_of_getElem? ht) w1 ho
            have nn : u ≠ .non := fun z => by
              obtain ⟨_, e1, _⟩ := dt_w du
              rw [z] at e1
              cases e1
            refine if_no (decide_eq_false nn) ?_
            refine ⟨_, rfl, _, rfl, _, rfl, _, _, rfl, rfl, r, u, d, w1, kt, W, g, ?_, by omega, s2 _ _ hr0, tab.to (.of s2), cl, du, mem1, fun x H3 s3 dx3 => ⟨D, _, _, rfl, rfl, s3 _ _ eD, sz1l _ (by omega), fin x H3 s3 dx3⟩⟩
            show [V.ref r, u, V.int (((d + 1 : Nat) : Int) - 1)] = _
            rw [show ((d + 1 : Nat) : Int) - 1 = (d : Int) by omega]
        · rintro σ H2 ⟨v4, v5, v6, us, rfl, eD, dD, s2⟩
          rw [lks, List.take_length] at dD
          refine ⟨_, rfl, _, rfl, D, us, rfl, .inl ⟨SqL.of eD, fun tu htu => ?_⟩⟩
          have s3 := Same.new (.tup us) (Same.refl H2) htu
          refine ⟨sz2, fun tr htr => ?_⟩
          have s4 := Same.new (.tup [.ref tw, .ref tu]) (Same.refl (upd H2 tu (.tup us))) htr
          refine k _ _ (s2.trans (s3.trans s4)) (.tup upd_same (.cons (dv.to (.of (s2.trans (s3.trans s4)))) (.cons (.tup (s4 _ _ upd_same) (dD.to (.of (s3.trans s4)))) .nil)))
end
end K26
set_option maxHeartbeats 4000000
namespace K26
open PySem PySem.Spec PyProof.Rows L2 Z
theorem rd_lock {H : Hp} {L a : Addr} {u x : HO} {od : Obj} (hL : H L = some u) (hu : Mut (some u)) (h : Rd H a x) : Rd (upd H L (.frz od u)) a x := by
  by_cases e : a = L
  · subst e
    rcases h with h | ⟨o, h⟩
    · rw [hL] at h
      cases h
      exact .inr ⟨od, upd_same⟩
    · rw [hL] at h
      cases h
      exact False.elim hu
  · rcases h with h | ⟨o, h⟩
    · exact .inl (by rw [upd_ne e]; exact h)
    · exact .inr ⟨o, by rw [upd_ne e]; exact h⟩
theorem lock_t {H : Hp} {L : Addr} {kvs : List (List Key × V)} {od : Obj} (hL : H L = some (.dT kvs)) : TSame H (upd H L (.frz od (.dT kvs))) := .updT hL
theorem LogAt.lock {K : PySem.W.Frag} {H : Hp} {p L : Addr} {W : List W3} {Es : List Ent} {kvs : List (List Key × V)} {od : Obj} (h : LogAt K H p W Es) (hL : H L = some (.dT kvs)) : LogAt K (upd H L (.frz od (.dT kvs))) p W Es := by
  have s := lock_t (od := od) hL
  obtain ⟨wt, ct, tt, ws, cs, ts, ⟨dx, nd, wd, nk, wk, h1, h2, h3, h4, h5⟩, hwt, dw, hct, dc, htt, dt⟩ := h
  refine ⟨wt, ct, tt, ws, cs, ts, ⟨dx, nd, wd, nk, wk, ?_, rd_lock hL trivial h2, h3, rd_lock hL trivial h4, h5⟩, s _ _ hwt, dw.to s, s _ _ hct, dc.to s, s _ _ htt, dt.to s⟩
  rw [upd_ne (fun z => by rw [z, hL] at h1; cases h1)]
  exact h1
theorem eqv_o {o : Option W3} : PyData.eqv (oD o) (oD o) = true := SeqAt.eqv_refl _ (SeqAt.canLay_of_shaped ((lay_o o).shaped (by decide)))
theorem dt_ent {H : Hp} {v : V} {e : Ent} (h : DT H v (entD e)) : ∃ t a b c, v = .ref t ∧ H t = some (.tup [a, b, c]) ∧ DT H a (wD e.1) ∧ DT H b (cD e.2.1) ∧ DT H c (.tuple (e.2.2.map tkD)) := by
  cases h with
  | tup e r =>
    cases r with
    | cons r1 r =>
      cases r with
      | cons r2 r =>
        cases r with
        | cons r3 r =>
          cases r
          exact ⟨_, _, _, _, rfl, e, r1, r2, r3⟩
theorem DR.at {H : Hp} : ∀ {kvs : List (List Key × V)} {m : DM} {i : Nat} {e : List Key × V}, DR H kvs m → kvs[i]? = some e → ∃ f, m[i]? = some f ∧ e.1 = cK f.1 ∧ DT H e.2 (wD f.2)
  | a :: r, f :: m, 0, e, h, he => by
    cases he
    exact ⟨f, rfl, h.1, h.2.1⟩
  | a :: r, f :: m, i + 1, e, h, he => DR.at (i := i) h.2.2 he
  | [], [], _, _, _, he => by cases he
  | [], _ :: _, _, _, h, _ => h.elim
  | _ :: _, [], _, _, h, _ => h.elim
theorem valV_there {k : List Key} {v : V} : ∀ {kvs : List (List Key × V)}, (k, v) ∈ kvs → valV kvs k ≠ none
  | e :: r, h, z => by
    by_cases c : e.1 = k
    · rw [valV_pos c] at z
      cases z
    · rw [valV_neg c] at z
      rcases List.mem_cons.mp h with h | h
      · rw [← h] at c
        exact c rfl
      · exact valV_there h z
theorem shap_o (o : Option W3) : SeqAt.shaped (oD o) = true := (lay_o o).shaped (by decide)
def spLogR (K : PySem.W.Frag) : Sp := fun vs H Q _ => ∃ (p F L : Addr) (Es : List Ent) (fs : List V) (kvs : List (List Key × V)) (m : DM), vs = [.ref p, .ref F, .ref L] ∧ LogAt K H p (Es.map (·.1)) Es ∧ H F = some (.lst fs) ∧ DTs H fs (Es.map entD) ∧ Es.length ≤ 540 ∧
  (∀ e ∈ Es, EntOk e) ∧ H L = some (.dT kvs) ∧ DR H kvs m ∧ (∀ c, dGet m c = lastW (Es.map (·.1)) Es c) ∧ ∀ H', Same H H' → Q (.bl true) H'
section
variable {P : Program} {w : World} {K : PySem.W.Frag} {mg : Str → Option Value} {base : Heap}
theorem sc_law_log_right : FnScope ["_law_log_here", "_law_found", "_law_lasts", "_law_row", "_law_cell", "_law_near"] ["_law_log_here", "_law_found", "_law_lasts"] (defScope s_law_log_right) := ⟨rfl, rfl, rfl, by decide +kernel, rfl, by decide +kernel, by decide +kernel⟩
theorem ok_logR {f : Addr} {fd fl : FuncData} (F : FnP K "_law_log_right" s_law_log_right f fd) (T : LwTx K mg) (G : LgTx K) (Fl : FnOk P w K mg base CX0 1 (He.ma K (CLg K) "last_writer") fl ["self", "array", "cell"] (spLW K)) (hbl : Binds K fl ["self", "array", "cell"] []) (cl : Meth K (CLg K) "last_writer" (He.ma K (CLg K) "last_writer")) :
    FnOk P w K mg base CX0 2 f fd ["_law_log_here", "_law_found", "_law_lasts"] (spLogR K) := by
  refine F.ok sc_law_log_right (fun vs H Q E h => ?_) (fun cdv A outer s H vs Q E hr h => ?_)
  · obtain ⟨p, F, L, Es, fs, kvs, m, rfl, _⟩ := h
    rfl
  · obtain ⟨p, F, L, Es, fs, kvs, m, rfl, log, hF, dF, few, ok, hL, dL, last, k⟩ := h
    have hu := hu_of hr
    have log0 := log
    obtain ⟨wt, ct, tt, ws, cs, ts, ⟨dx, nd, wd, nk, wk, hp, hn, okN, hwd, okW⟩, hwt, dw, hct, dc, htt, dt⟩ := log
    have lfs : fs.length = Es.length := by rw [dF.len, List.length_map]
    refine ⟨_, PSs.nox (pss_cons (ps_if (pt_cmpR (op_neD hr.units) (pe_tup (pa_cons (pe_fld (pv 0) rfl) (pa_cons (pe_fld (pv 0) rfl) pa_nil))) (pe_tup (pa_cons (pe_callTy call_tuple_of (by rfl) T.tuple (by decide +kernel) (pa_cons (pe_lc (own := [("_law_row", 3)]) (g := gName 3) (tt := tYes) rfl sc_law_log_right.nd (pi_list (pv 1)) (blkOk_by (N := ["_law_log_here", "_law_found", "_law_lasts", "_law_row", "_law_cell", "_law_near"]) (sc := defScope s_law_log_right) (by decide +kernel)) (fun _ _ _ _ _ => (pg_name (i := 3) sc_law_log_right.nd rfl (.inl rfl))) (fun _ _ _ _ _ => pts_nil) (fun _ _ _ _ _ => (pe_ix (ix_tupK (K := K) rfl) (pv 3) pe_int (fun _ _ => rfl)))) pa_nil)) (pa_cons (pe_callTy call_tuple_of (by rfl) T.tuple (by decide +kernel) (pa_cons (pe_lc (own := [("_law_row", 3)]) (g := gName 3) (tt := tYes) rfl sc_law_log_right.nd (pi_list (pv 1)) (blkOk_by (N := ["_law_log_here", "_law_found", "_law_lasts", "_law_row", "_law_cell", "_law_near"]) (sc := defScope s_law_log_right) (by decide +kernel)) (fun _ _ _ _ _ => (pg_name (i := 3) sc_law_log_right.nd rfl (.inl rfl))) (fun _ _ _ _ _ => pts_nil) (fun _ _ _ _ _ => (pe_ix (ix_tupK (K := K) rfl) (pv 3) pe_int (fun _ _ => rfl)))) pa_nil)) pa_nil))) (nomark _)) (pss_one (ps_ret pe_bl)) pss_nil)
      (pss_cons (ps_if (pt_cmpR (op_neD hr.units) (pe_fld (pv 0) rfl) (pe_callTy call_tuple_of (by rfl) T.tuple (by decide +kernel) (pa_cons (pe_lc (own := [("_law_row", 3)]) (g := gName 3) (tt := tYes) rfl sc_law_log_right.nd (pi_list (pv 1)) (blkOk_by (N := ["_law_log_here", "_law_found", "_law_lasts", "_law_row", "_law_cell", "_law_near"]) (sc := defScope s_law_log_right) (by decide +kernel)) (fun _ _ _ _ _ => (pg_name (i := 3) sc_law_log_right.nd rfl (.inl rfl))) (fun _ _ _ _ _ => pts_nil) (fun _ _ _ _ _ => (pe_ix (ix_tupK (K := K) rfl) (pv 3) pe_int (fun _ _ => rfl)))) pa_nil)) (nomark _)) (pss_one (ps_ret pe_bl)) pss_nil)
      (pss_cons (ps_lock (ps_for PassesOwn.never rfl (pi_keys (pv 2)) (pg_name (i := 4) sc_law_log_right.nd rfl (.inl rfl)) (pss_cons (ps_if (pt_cmpR (op_neD hr.units) (pe_meth (pv 0) G.cl cl Fl (hr.mono (by decide)) hbl .nil pass0 (pa_cons (pe_ix (ix_tupK (K := K) rfl) (pv 4) pe_int (fun _ _ => rfl)) (pa_cons (pe_ix (ix_tupK (K := K) rfl) (pv 4) pe_int (fun _ _ => rfl)) pa_nil))) (pe_dget hu (pv 2) (pv 4) (fun _ _ => rfl)) (nomark _)) (pss_one (ps_ret pe_bl)) pss_nil)
      (pss_cons (ps_set (i := 5) sc_law_log_right.nd rfl (Or.inl rfl) (pe_tup (pa_cons (pe_ix (ix_tupK (K := K) rfl) (pv 4) pe_int (fun _ _ => rfl)) (pa_cons (pe_op op_add (pe_ix (ix_tupK (K := K) rfl) (pv 4) pe_int (fun _ _ => rfl)) pe_int) pa_nil))))
      (pss_one (ps_if (pt_cmpR (op_neD hr.units) (pe_meth (pv 0) G.cl cl Fl (hr.mono (by decide)) hbl .nil pass0 (pa_cons (pe_ix (ix_tupK (K := K) rfl) (pv 5) pe_int (fun _ _ => rfl)) (pa_cons (pe_ix (ix_tupK (K := K) rfl) (pv 5) pe_int (fun _ _ => rfl)) pa_nil))) (pe_ifExp (pt_cmp (pc_din hu (pv 5) (pv 2))) (pe_dget hu (pv 2) (pv 5) (fun _ _ => rfl)) pe_non) (nomark _)) (pss_one (ps_ret pe_bl)) pss_nil))))))
      (pss_one (ps_ret (pe_cmpR op_isN (pe_meth (pv 0) G.cl cl Fl (hr.mono (by decide)) hbl .nil pass0 (pa_cons pe_str (pa_cons pe_int pa_nil))) pe_non (nomark _))))))), ?_⟩
    refine ⟨_, rfl, p, _, dx, _, _, rfl, hp, G.cl, G.nW, lgf_w, _, rfl, p, _, dx, _, _, rfl, hp, G.cl, G.nC, lgf_c, sz2, fun T1 hT1 => ?_⟩
    have sT1 := Same.new (.tup [.ref wt, .ref ct]) (Same.refl H) hT1
    obtain ⟨H1, eH1⟩ : ∃ X, X = upd H T1 (.tup [.ref wt, .ref ct]) := ⟨_, rfl⟩
    have eT1 : H1 T1 = some (.tup [.ref wt, .ref ct]) := by rw [eH1]; exact upd_same
    rw [← eH1] at sT1
    rw [← eH1]
    have hF1 := sT1 _ _ hF
    have dF1 := dF.to (.of sT1)
    refine ⟨_, rfl, F, rfl, ⟨_, SqL.of hF1⟩, fun D1 hD1 => ?_⟩
    have sD1 := Same.new (.lst []) (Same.refl H1) hD1
    refine lc_list (K := K) (xs := fs) (fun i Hc => ∃ us : List V, Hc D1 = some (.lst us) ∧ DTs Hc us ((Es.take i).map (fun e => wD e.1)) ∧ Same H1 Hc) ⟨[], upd_same, .nil, sD1⟩ (fun i Hc _ z => by
      obtain ⟨_, _, _, sc⟩ := z
      exact SqL.of (sc _ _ hF1)) ?_ ?_
    · rintro i v Hc hv ⟨us, eD, dD, sc⟩
      obtain ⟨e, he, dv⟩ := (dF1.to (.of sc)).map' hv
      obtain ⟨t, a, b, c, rfl, ht, da, db, dc⟩ := dt_ent dv
      have tsU : TSame Hc (upd Hc D1 (.lst (us ++ [a]))) := .updL eD
      refine ⟨rfl, yes_of ?_⟩
      refine ⟨_, rfl, t, _, _, _, rfl, rfl, SqT.of ht, at0, us, eD, sz1l _ (by
        rw [dD.len, List.length_map, List.length_take]
        omega), us ++ [a], upd_same, ?_, fun b' o eb => ?_⟩
      · rw [List.take_add_one, he]
        exact (dD.to tsU).snoc (da.to tsU)
      · rw [upd_ne (ne_of_none eb hD1)]
        exact sc _ _ eb
    rintro H2 ⟨u1, eD1, dD1, sH2⟩
    rw [lfs, List.take_length] at dD1
    refine ⟨D1, u1, rfl, .inl ⟨SqL.of eD1, fun X1 hX1 => ?_⟩⟩
    have sX1 := Same.new (.tup u1) (Same.refl H2) hX1
    obtain ⟨H3, eH3⟩ : ∃ X, X = upd H2 X1 (.tup u1) := ⟨_, rfl⟩
    have eX1 : H3 X1 = some (.tup u1) := by rw [eH3]; exact upd_same
    rw [← eH3] at sX1
    rw [← eH3]
    have s13 := sH2.trans sX1
    have hF3 := s13 _ _ hF1
    have dF3 := dF1.to (.of s13)
    refine ⟨_, rfl, F, rfl, ⟨_, SqL.of hF3⟩, fun D2 hD2 => ?_⟩
    have sD2 := Same.new (.lst []) (Same.refl H3) hD2
    refine lc_list (K := K) (xs := fs) (fun i Hc => ∃ us : List V, Hc D2 = some (.lst us) ∧ DTs Hc us ((Es.take i).map (fun e => cD e.2.1)) ∧ Same H3 Hc) ⟨[], upd_same, .nil, sD2⟩ (fun i Hc _ z => by
      obtain ⟨_, _, _, sc⟩ := z
      exact SqL.of (sc _ _ hF3)) ?_ ?_
    · rintro i v Hc hv ⟨us, eD, dD, sc⟩
      obtain ⟨e, he, dv⟩ := (dF3.to (.of sc)).map' hv
      obtain ⟨t, a, b, c, rfl, ht, da, db, dc⟩ := dt_ent dv
      have tsU : TSame Hc (upd Hc D2 (.lst (us ++ [b]))) := .updL eD
      refine ⟨rfl, yes_of ?_⟩
      refine ⟨_, rfl, t, _, _, _, rfl, rfl, SqT.of ht, at1, us, eD, sz1l _ (by
        rw [dD.len, List.length_map, List.length_take]
        omega), us ++ [b], upd_same, ?_, fun b' o eb => ?_⟩
      · rw [List.take_add_one, he]
        exact (dD.to tsU).snoc (db.to tsU)
      · rw [upd_ne (ne_of_none eb hD2)]
        exact sc _ _ eb
    rintro H4 ⟨u2, eD2, dD2, sH4⟩
    rw [lfs, List.take_length] at dD2
    refine ⟨D2, u2, rfl, .inl ⟨SqL.of eD2, fun X2 hX2 => ?_⟩⟩
    have sX2 := Same.new (.tup u2) (Same.refl H4) hX2
    obtain ⟨H5, eH5⟩ : ∃ X, X = upd H4 X2 (.tup u2) := ⟨_, rfl⟩
    have eX2 : H5 X2 = some (.tup u2) := by rw [eH5]; exact upd_same
    rw [← eH5] at sX2
    rw [← eH5]
    have s35 := sH4.trans sX2
    refine ⟨sz2, fun T2 hT2 => ?_⟩
    have sT2 := Same.new (.tup [.ref X1, .ref X2]) (Same.refl H5) hT2
    obtain ⟨H6, eH6⟩ : ∃ X, X = upd H5 T2 (.tup [.ref X1, .ref X2]) := ⟨_, rfl⟩
    have eT2 : H6 T2 = some (.tup [.ref X1, .ref X2]) := by rw [eH6]; exact upd_same
    rw [← eH6] at sT2
    rw [← eH6]
    have s36 := s35.trans sT2
    have s16 := s13.trans s36
    have s06 := sT1.trans s16
    have ew : (Es.map (·.1)).map wD = Es.map fun e => wD e.1 := by rw [List.map_map]; rfl
    have both : PyData.tuple [.tuple (Es.map fun e => wD e.1), .tuple (Es.map fun e => cD e.2.1)] = .tuple [.tuple ((Es.map (·.1)).map wD), .tuple (Es.map fun e => cD e.2.1)] := by rw [ew]
    have sh : SeqAt.shaped (.tuple [.tuple (Es.map fun e => wD e.1), .tuple (Es.map fun e => cD e.2.1)]) = true := by
      refine Lay.shaped (k := 3) (Lay.tup fun d hd => ?_) (by decide)
      simp only [List.mem_cons, List.not_mem_nil, or_false] at hd
      rcases hd with rfl | rfl
      · refine Lay.tup fun d hd => ?_
        obtain ⟨e, he, rfl⟩ := List.mem_map.mp hd
        exact lay_w _
      · refine Lay.tup fun d hd => ?_
        obtain ⟨e, he, rfl⟩ := List.mem_map.mp hd
        exact lay_c (ok e he).1
    have dA : DT H6 (.ref T1) (.tuple [.tuple (Es.map fun e => wD e.1), .tuple (Es.map fun e => cD e.2.1)]) := by
      rw [both]
      exact .tup (s16 _ _ eT1) (.cons (.tup (s06 _ _ hwt) (dw.to (.of s06))) (.cons (.tup (s06 _ _ hct) (dc.to (.of s06))) .nil))
    have dB : DT H6 (.ref T2) (.tuple [.tuple (Es.map fun e => wD e.1), .tuple (Es.map fun e => cD e.2.1)]) :=
      .tup eT2 (.cons (.tup (s36 _ _ eX1) (dD1.to (.of (sX1.trans s36)))) (.cons (.tup (sT2 _ _ eX2) (dD2.to (.of (sX2.trans sT2)))) .nil))
    refine ⟨_, _, DT.dp _ dA, DT.dp _ dB, sh, sh, ?_⟩
    rw [SeqAt.eqv_refl _ (SeqAt.canLay_of_shaped sh)]
    refine ⟨_, rfl, if_no rfl ?_⟩
    have hp6 := s06 _ _ hp
    have hF6 := s06 _ _ hF
    have dF6 := dF.to (.of s06)
    refine ⟨_, rfl, p, _, dx, _, _, rfl, hp6, G.cl, G.nT, lgf_t, _, rfl, F, rfl, ⟨_, SqL.of hF6⟩, fun D3 hD3 => ?_⟩
    have sD3 := Same.new (.lst []) (Same.refl H6) hD3
    refine lc_list (K := K) (xs := fs) (fun i Hc => ∃ us : List V, Hc D3 = some (.lst us) ∧ DTs Hc us ((Es.take i).map (fun e => PyData.tuple (e.2.2.map tkD))) ∧ Same H6 Hc) ⟨[], upd_same, .nil, sD3⟩ (fun i Hc _ z => by
      obtain ⟨_, _, _, sc⟩ := z
      exact SqL.of (sc _ _ hF6)) ?_ ?_
    · rintro i v Hc hv ⟨us, eD, dD, sc⟩
      obtain ⟨e, he, dv⟩ := (dF6.to (.of sc)).map' hv
      obtain ⟨t, a, b, c, rfl, ht, da, db, dc⟩ := dt_ent dv
      have tsU : TSame Hc (upd Hc D3 (.lst (us ++ [c]))) := .updL eD
      refine ⟨rfl, yes_of ?_⟩
      refine ⟨_, rfl, t, _, _, _, rfl, rfl, SqT.of ht, at2, us, eD, sz1l _ (by
        rw [dD.len, List.length_map, List.length_take]
        omega), us ++ [c], upd_same, ?_, fun b' o eb => ?_⟩
      · rw [List.take_add_one, he]
        exact (dD.to tsU).snoc (dc.to tsU)
      · rw [upd_ne (ne_of_none eb hD3)]
        exact sc _ _ eb
    rintro H7 ⟨u3, eD3, dD3, sH7⟩
    rw [lfs, List.take_length] at dD3
    refine ⟨D3, u3, rfl, .inl ⟨SqL.of eD3, fun X3 hX3 => ?_⟩⟩
    have sX3 := Same.new (.tup u3) (Same.refl H7) hX3
    obtain ⟨H8, eH8⟩ : ∃ X, X = upd H7 X3 (.tup u3) := ⟨_, rfl⟩
    have eX3 : H8 X3 = some (.tup u3) := by rw [eH8]; exact upd_same
    rw [← eH8] at sX3
    rw [← eH8]
    have s68 := sH7.trans sX3
    have s08 := s06.trans s68
    have sh3 : SeqAt.shaped (.tuple (Es.map fun e => PyData.tuple (e.2.2.map tkD))) = true := by
      refine Lay.shaped (k := 4) (Lay.tup fun d hd => ?_) (by decide)
      obtain ⟨e, he, rfl⟩ := List.mem_map.mp hd
      refine Lay.tup fun d hd => ?_
      obtain ⟨t, ht, rfl⟩ := List.mem_map.mp hd
      exact lay_t ((ok e he).2.2 t ht)
    refine ⟨_, _, DT.dp _ (.tup (s08 _ _ htt) (dt.to (.of s08))), DT.dp _ (.tup eX3 (dD3.to (.of sX3))), sh3, sh3, ?_⟩
    rw [SeqAt.eqv_refl _ (SeqAt.canLay_of_shaped sh3)]
    refine ⟨_, rfl, if_no rfl ?_⟩
    have hL8 := s08 _ _ hL
    have log8 := log0.same s08
    have dL8 := dL.to (.of s08)
    refine ⟨L, .dT kvs, hL8, trivial, fun od => ?_⟩
    obtain ⟨H9, eH9⟩ : ∃ X, X = upd H8 L (.frz od (.dT kvs)) := ⟨_, rfl⟩
    have log9 : LogAt K H9 p (Es.map (·.1)) Es := by rw [eH9]; exact log8.lock hL8
    have ts89 : TSame H8 H9 := by rw [eH9]; exact lock_t hL8
    have eL9 : H9 L = some (.frz od (.dT kvs)) := by rw [eH9]; exact upd_same
    have dL9 := dL8.to ts89
    have hp9 : H9 p = some (.ins (CLg K) dx (lgf wt ct tt nd wd)) := by
      have e := s08 _ _ hp
      rw [eH9, upd_ne (fun z => by rw [z, hL8] at e; cases e)]
      exact e
    rw [← eH9]
    have no_lw : (lgf wt ct tt nd wd).lookup ("last_writer" : Str) = none := lgf_no (by decide +kernel) (by decide +kernel) (by decide +kernel) (by decide +kernel) (by decide +kernel)
    refine ⟨_, rfl, L, od, rfl, .inr ⟨kvs, eL9, ?_⟩⟩
    refine for_it (walk_keysT (d := L) (o := od) (kvs := kvs)) (fun i σ H' => ∃ (v4 v5 : Option V), σ = [some (.ref p), some (.ref F), some (.ref L), none, v4, v5] ∧ Same H9 H') ⟨_, _, rfl, Same.refl H9⟩ (fun i σ H' _ z => by
      obtain ⟨_, _, _, sc⟩ := z
      exact sc _ _ eL9) ?_ ?_
    · rintro i x σ Hc H' lt ⟨v4, v5, rfl, sc⟩ ⟨rfl, ky, v, q, hk, rfl, hq⟩
      obtain ⟨⟨c, w0⟩, hm, ek, dv⟩ := dL9.at hk
      have ek : ky = cK c := ek
      subst ek
      refine normG (σ' := [some (.ref p), some (.ref F), some (.ref L), none, some (.ref q), v5]) rfl ?_
      have hq0 := hq
      have hq' : H' q = some (.tup [.str c.1, .int c.2]) := hq
      obtain ⟨vo, wo, e1, e2, dvo⟩ : ∃ vo wo, valV kvs (cK c) = some vo ∧ dGet m c = some wo ∧ DT H9 vo (wD wo) := by
        rcases dL9.get c with ⟨e1, _⟩ | ⟨vo, wo, e1, e2, dvo⟩
        · exact absurd e1 (valV_there (List.mem_of_getElem? hk))
        · exact ⟨vo, wo, e1, e2, dvo⟩
      have lw : lastW (Es.map (·.1)) Es c = some wo := by rw [← last c]; exact e2
      refine ⟨_, rfl, p, dx, _, rfl, sc _ _ hp9, no_lw, _, rfl, q, _, _, _, rfl, rfl, SqT.of hq', at0, _, rfl, q, _, _, _, rfl, rfl, SqT.of hq', at1, p, c.1, c.2, _, Es, rfl, log9.same sc, fun v1 H1 s1 d1 => ?_⟩
      have s91 := sc.trans s1
      refine ⟨_, rfl, _, rfl, L, vo, rfl, e1 ▸ DGet.r (.inr ⟨od, s91 _ _ eL9⟩) (k := cK c) (s1 _ _ hq0), ?_⟩
      rw [show ((c.1, c.2) : Cell) = c from rfl, lw] at d1
      refine ⟨_, _, DT.dp _ d1, DT.dp _ (show DT H1 vo (oD (some wo)) from dvo.to (.of s91)), shap_o _, shap_o _, ?_⟩
      rw [eqv_o]
      refine ⟨_, rfl, if_no rfl ?_⟩
      have hq1 := s1 _ _ hq'
      refine ⟨_, rfl, q, _, _, _, rfl, rfl, SqT.of hq1, at0, _, rfl, q, _, _, _, rfl, rfl, SqT.of hq1, at1, _, _, rfl, rfl, sz2, fun N hN => ?_⟩
      obtain ⟨c2, hc2⟩ : ∃ c2 : Cell, c2 = (c.1, c.2 + 1) := ⟨_, rfl⟩
      have eN : (.tup [.str c.1, .int (c.2 + 1)] : HO) = .tup ((cK c2).map kV) := by rw [hc2]; rfl
      rw [eN]
      have sN := Same.new (.tup ((cK c2).map kV)) (Same.refl H1) hN
      obtain ⟨H2, eH2⟩ : ∃ X, X = upd H1 N (.tup ((cK c2).map kV)) := ⟨_, rfl⟩
      have eN2 : H2 N = some (.tup ((cK c2).map kV)) := by rw [eH2]; exact upd_same
      have eN2' : H2 N = some (.tup [.str c2.1, .int c2.2]) := eN2
      rw [← eH2] at sN
      rw [← eH2]
      refine normG (σ' := [some (.ref p), some (.ref F), some (.ref L), none, some (.ref q), some (.ref N)]) rfl ?_
      have s92 := s91.trans sN
      refine ⟨_, rfl, p, dx, _, rfl, s92 _ _ hp9, no_lw, _, rfl, N, _, _, _, rfl, rfl, SqT.of eN2', at0, _, rfl, N, _, _, _, rfl, rfl, SqT.of eN2', at1, p, c2.1, c2.2, _, Es, rfl, log9.same s92, fun v2 H3 s3 d2 => ?_⟩
      have s93 := s92.trans s3
      have eN3 := s3 _ _ eN2
      rw [show ((c2.1, c2.2) : Cell) = c2 from rfl, ← last c2] at d2
      refine ⟨_, rfl, _, rfl, L, _, rfl, DGet.r (.inr ⟨od, s93 _ _ eL9⟩) (k := cK c2) eN3, _, rfl, ?_⟩
      rcases dL9.get c2 with ⟨g1, g2⟩ | ⟨vg, wg, g1, g2, dvg⟩
      · rw [g1]
        rw [g2] at d2
        refine if_no rfl ?_
        refine ⟨_, _, DT.dp _ d2, DT.dp _ (show DT H3 .non (oD none) from .non), shap_o _, shap_o _, ?_⟩
        rw [eqv_o]
        exact ⟨_, rfl, if_no rfl ⟨_, _, rfl, s93⟩⟩
      · rw [g1]
        rw [g2] at d2
        refine if_yes rfl ?_
        refine ⟨_, rfl, _, rfl, L, vg, rfl, g1 ▸ DGet.r (.inr ⟨od, s93 _ _ eL9⟩) (k := cK c2) eN3, ?_⟩
        refine ⟨_, _, DT.dp _ d2, DT.dp _ (show DT H3 vg (oD (some wg)) from dvg.to (.of s93)), shap_o _, shap_o _, ?_⟩
        rw [eqv_o]
        exact ⟨_, rfl, if_no rfl ⟨_, _, rfl, s93⟩⟩
    · rintro σ Hc ⟨v4, v5, rfl, sc⟩
      refine ⟨sc _ _ eL9, ?_⟩
      have s8c : Same H8 (upd Hc L (.dT kvs)) := fun b o e => by
        by_cases z : b = L
        · subst z
          rw [hL8] at e
          cases e
          exact upd_same
        · rw [upd_ne z]
          exact sc _ _ (by rw [eH9, upd_ne z]; exact e)
      refine ⟨_, rfl, p, dx, _, rfl, s8c _ _ (s08 _ _ hp), no_lw, p, "zzzzzzzc", 0, _, Es, rfl, log8.same s8c, fun v1 H1 s1 d1 => ⟨rfl, ?_⟩⟩
      rw [lastW_no ok (fun z => z.2.2 rfl)] at d1
      cases d1
      exact k _ (s08.trans (s8c.trans s1))
end
end K26
set_option maxHeartbeats 4000000
namespace K26
open PySem PySem.Spec PyProof.Rows L2 Z
def spLaw (K : PySem.W.Frag) : Sp := fun vs H Q _ => ∃ (a : Addr) (ns : List Int), vs = [.ref a] ∧ SqL K H a (ns.map V.int) ∧ ns.length ≤ 63 ∧ ∀ H', Q (.bl true) H'
theorem tot_small {ls : List LpM} {n : Int} (ok : ∀ l ∈ ls, LpOk l) (n0 : 0 ≤ n) (n8 : n ≤ 8) : tot ls n ≤ (ls.length : Int) * 60 := by
  unfold tot
  induction ls with
  | nil => exact Int.le_refl _
  | cons l ls ih =>
    rw [List.map_cons, List.sum_cons, List.length_cons]
    have h := lpCs_len (ok l List.mem_cons_self) n0 n8
    have h2 := ih fun l hl => ok l (List.mem_cons_of_mem _ hl)
    omega
theorem LogAt.keepC {K : PySem.W.Frag} {H H' : Hp} {p0 pc p : Addr} {t : Nat} {W : List W3} {Es : List Ent} (h : LogAt K H p W Es) (hP : PenC H p0 pc t) (k : Keep p0 H H') : LogAt K H' p W Es := by
  have s := TSame.keepC hP k
  obtain ⟨ns, a, l, e0, _⟩ := hP
  have rk : ∀ {b : Addr} {kv : List (List Key × V)}, Rd H b (.dT kv) → Rd H' b (.dT kv) := fun {b kv} h => by
    rcases h with h | ⟨o, h⟩
    · exact .inl (k _ _ (fun z => by rw [z, e0] at h; cases h) h)
    · exact .inr ⟨o, k _ _ (fun z => by rw [z, e0] at h; cases h) h⟩
  obtain ⟨wt, ct, tt, ws, cs, ts, ⟨dx, nd, wd, nk, wk, h1, h2, h3, h4, h5⟩, hwt, dw, hct, dc, htt, dt⟩ := h
  exact ⟨wt, ct, tt, ws, cs, ts, ⟨dx, nd, wd, nk, wk, k _ _ (fun z => by rw [z, e0] at h1; cases h1) h1, rk h2, h3, rk h4, h5⟩, s _ _ hwt, dw.to s, s _ _ hct, dc.to s, s _ _ htt, dt.to s⟩
/-- what stands through the law's later turns -/
structure Sta (K : PySem.W.Frag) (p pc r : Addr) (v : V) (F g Tb : Addr) (xs : List V) (ls : List LpM) (fs : List V) (Es : List Ent) (W : List W3) (kt : List (List Key × V)) (H : Hp) (t : Nat) : Prop where
  pen : PenC H p pc t
  rows : H r = some (.lst xs)
  drows : DTs H xs (ls.map lpD)
  prog : PrOb K H v ls
  found : H F = some (.lst fs)
  dfound : DTs H fs (Es.map entD)
  log : LogAt K H g W Es
  tab : H Tb = some (.dT kt)
  dtab : TabOk H kt W (tbl W Es)
section
variable {K : PySem.W.Frag} {p pc r : Addr} {v : V} {F g Tb : Addr} {xs : List V} {ls : List LpM} {fs : List V} {Es : List Ent} {W : List W3} {kt : List (List Key × V)} {H H' : Hp} {t t' : Nat}
theorem Sta.same (S : Sta K p pc r v F g Tb xs ls fs Es W kt H t) (s : Same H H') : Sta K p pc r v F g Tb xs ls fs Es W kt H' t :=
  ⟨S.pen.same s, s _ _ S.rows, S.drows.to (.of s), S.prog.same s, s _ _ S.found, S.dfound.to (.of s), S.log.same s, s _ _ S.tab, S.dtab.to (.of s)⟩
theorem Sta.up (S : Sta K p pc r v F g Tb xs ls fs Es W kt H t) (e : t ≤ t') : Sta K p pc r v F g Tb xs ls fs Es W kt H t' := ⟨S.pen.mono e, S.rows, S.drows, S.prog, S.found, S.dfound, S.log, S.tab, S.dtab⟩
theorem Sta.keep (S : Sta K p pc r v F g Tb xs ls fs Es W kt H t) (k : Keep p H H') (hP : PenC H' p pc t') : Sta K p pc r v F g Tb xs ls fs Es W kt H' t' := by
  have s := TSame.keepC S.pen k
  refine ⟨hP, S.pen.lst k S.rows, S.drows.to s, S.prog.ms (MS.keep S.pen.pen k), S.pen.lst k S.found, S.dfound.to s, S.log.keepC S.pen k, k _ _ (S.pen.ne S.tab fun _ z => by cases z) S.tab, S.dtab.to s⟩
end
theorem lay_ss {x : Str} {d : PyData} (hx : PyData.strOk x = true) (hd : Lay 1 d) : Lay 2 (.tuple [.str x, d]) := Lay.tup fun e z => by
  simp only [List.mem_cons, List.not_mem_nil, or_false] at z
  rcases z with rfl | rfl
  · exact (lay_str hx).mono (by decide)
  · exact hd
theorem bads_at {i : Nat} (h : i < 3) : ∃ b : Int, ([.int 5, .int (-1), .int 7] : List V)[i]? = some (.int b) ∧ ¬ (0 ≤ b ∧ b ≤ 4) := by
  match i, h with
  | 0, _ => exact ⟨5, rfl, by decide⟩
  | 1, _ => exact ⟨-1, rfl, by decide⟩
  | 2, _ => exact ⟨7, rfl, by decide⟩
theorem cp30 : CPow 10 30 := ⟨by decide, by decide, by decide⟩
theorem cp7 : CPow 10 7 := ⟨by decide, by decide, by decide⟩
theorem far_in {d : Int} (d0 : 0 ≤ d) : ∃ fv : Int, (if d + 10 ^ Int.toNat 7 < 10 ^ Int.toNat 30 then d + 10 ^ Int.toNat 7 else 10 ^ Int.toNat 30) = fv ∧ 1 ≤ fv ∧ fv ≤ TOP := by
  have e7 : (10 : Int) ^ Int.toNat 7 = 10000000 := by decide
  have e30 : (10 : Int) ^ Int.toNat 30 = TOP := by decide
  rw [e7, e30]
  refine ⟨_, rfl, ?_, ?_⟩
  · split
    · omega
    · decide
  · split
    · omega
    · exact Int.le_refl _
def OutV (H : Hp) (b : V) : Prop := IntV H b false ∨ ∃ i : Int, b = .int i ∧ ¬ (0 ≤ i ∧ i ≤ TOP)
theorem OutV.to {H H' : Hp} {b : V} (h : OutV H b) (s : TSame H H') : OutV H' b := by
  rcases h with h | h
  · refine .inl ?_
    cases h with
    | bl b => exact .bl b
    | str x => exact .str x
    | non => exact .non
    | tup e => exact .tup (s _ _ e)
  · exact .inr h
theorem bads7 {H : Hp} {A : Addr} {fv : Int} (hA : H A = some (.tup [.int 3])) (f1 : 1 ≤ fv) {j : Nat} (h : j < 7) : ∃ b d, ([.int (-1), .int (10 ^ Int.toNat 30 + 1), .int (-fv), .bl true, .str "5", .non, .ref A] : List V)[j]? = some b ∧ DT H b d ∧ Lay 1 d ∧ OutV H b := by
  have e30 : (10 : Int) ^ Int.toNat 30 = TOP := by decide
  rw [e30]
  match j, h with
  | 0, _ => exact ⟨_, _, rfl, .int _, (lay_int _).mono (by decide), .inr ⟨_, rfl, by decide⟩⟩
  | 1, _ => exact ⟨_, _, rfl, .int _, (lay_int _).mono (by decide), .inr ⟨_, rfl, by decide⟩⟩
  | 2, _ => exact ⟨_, _, rfl, .int _, (lay_int _).mono (by decide), .inr ⟨_, rfl, by omega⟩⟩
  | 3, _ => exact ⟨_, _, rfl, .bl true, ⟨rfl, by simp [PyData.depth]⟩, .inl (.bl true)⟩
  | 4, _ => exact ⟨_, _, rfl, .str _, (lay_str (by decide +kernel)).mono (by decide), .inl (.str _)⟩
  | 5, _ => exact ⟨_, _, rfl, .non, lay_non.mono (by decide), .inl .non⟩
  | 6, _ => exact ⟨_, _, rfl, .tup hA (.cons (.int _) .nil), Lay.tup (fun d hd => by rw [List.mem_singleton.mp hd]; exact lay_int _), .inl (.tup hA)⟩
theorem told_of {H : Hp} {Q : VK} {b : V} {ls : List LpM} (hb : OutV H b) (k : TupBack H Q [.str "size", b]) : (IntV H b false ∧ TupBack H Q [.str "size", b]) ∨ ∃ n : Int, b = .int n ∧ (¬ (0 ≤ n ∧ n ≤ TOP) → TupBack H Q [.str "size", .int n]) ∧
    (0 ≤ n ∧ n ≤ TOP → (20000 < tot ls n → TupBack H Q [.str "long", .int (tot ls n)]) ∧ (tot ls n ≤ 20000 → ∀ m H', Same H H' → Q (.int m) H')) := by
  rcases hb with h | ⟨i, rfl, h⟩
  · exact .inl ⟨h, k⟩
  · exact .inr ⟨i, rfl, fun _ => k, fun z => absurd z h⟩
theorem not_work {ls : List LpM} {n : Int} (ok : ∀ l ∈ ls, LpOk l) (n0 : 0 ≤ n) (n8 : n ≤ 8) {w : W3} (h : w.1 = (ls.length : Int) ∨ w.2.1 < 0 ∨ 300 < w.2.1 ∨ w.2.2 = 3) : w ∉ works ls n := by
  intro m
  obtain ⟨j, q, l, s, hj, hq, hl, hc, hs⟩ := works_mem m
  have okl := ok l (List.mem_of_getElem? hl)
  have h1 := (lpCs_len okl n0 n8).2.2 _ hc
  have h2 := (List.getElem?_eq_some_iff.mp hl).1
  have h3 := (List.getElem?_eq_some_iff.mp hs).1
  have h4 : l.sts.length ≤ 3 := by
    obtain ⟨_, _, _, _, _, _, _, _, _, _, _, _, _, _, _, _, n3, _⟩ := okl
    exact n3
  omega
section
variable {P : Program} {w : World} {K : PySem.W.Frag} {mg : Str → Option Value} {base : Heap}
theorem sc_law : FnScope ["_law_script", "_law_pen_here", "_law_rows", "_law_n", "_law_program", "_law_found", "_law_lasts", "_law_log_here", "_law_table", "_law_row", "_law_turn", "_law_work", "_law_depth", "_law_bad", "_law_far", "_law_many", "_law_told_here"] ["_law_script"] (defScope s_law) := ⟨rfl, rfl, rfl, by decide +kernel, rfl, by decide +kernel, by decide +kernel⟩
theorem ok_law {f : Addr} {fd fl : FuncData} (F : FnP K "law" s_law f fd) (T : LwTx K mg) (G : LgTx K) (dPen : Dn P w K mg base 1 "_law_pen" ["_law_script"] (spPen K)) (dDraw : Dn P w K mg base 1 "_law_draw" ["_law_pen_here", "_law_many"] spDrawC) (dBig : Dn P w K mg base 2 "_law_big" ["_law_pen_here", "_law_many"] spBigG)
    (dSRows : Dn P w K mg base 5 "_law_small_rows" ["_law_pen_here", "_law_loops", "_law_most"] spSRows) (dMade : Dn P w K mg base 11 "_law_made" ["_law_rows"] (spMade K)) (dLog : Dn P w K mg base 4 "_law_log" ["_law_rows", "_law_n"] spLog)
    (dLogP : Dx P w K mg base 6 "log_program" ["program", "n"] (spLogP K)) (dLogR : Dn P w K mg base 2 "_law_log_right" ["_law_log_here", "_law_found", "_law_lasts"] (spLogR K)) (dTermT : Dn P w K mg base 7 "_law_term_told" ["_law_log_here", "_law_work", "_law_depth"] (spTermT K))
    (dTerm : Dn P w K mg base 5 "_law_term" ["_law_rows", "_law_work", "_law_depth"] (spLT 5)) (dTurnsF : Dn P w K mg base 1 "_law_turns_far" ["_law_row", "_law_n"] spTurnsF) (dTold : Dn P w K mg base 7 "_law_told" ["_law_program", "_law_n"] (spTold K))
    (Fl : FnOk P w K mg base CX0 1 (He.ma K (CLg K) "last_writer") fl ["self", "array", "cell"] (spLW K)) (hbl : Binds K fl ["self", "array", "cell"] []) (cl : Meth K (CLg K) "last_writer" (He.ma K (CLg K) "last_writer")) :
    FnOk P w K mg base CX0 12 f fd ["_law_script"] (spLaw K) := by
  refine F.ok sc_law (fun vs H Q E h => ?_) (fun cdv A outer s H vs Q E hr h => ?_)
  · obtain ⟨a, ns, rfl, _⟩ := h
    rfl
  · obtain ⟨sc, ns, rfl, hS, hl, k⟩ := h
    have hu := hu_of hr
    refine ⟨_, PSs.nox (pss_cons (ps_set (i := 1) sc_law.nd rfl (Or.inl rfl) (pe_dn dPen hr (pa_cons (pv 0) pa_nil)))
      (pss_cons (ps_par (i := 2) (j := 3) (by rfl) sc_law.nd rfl rfl (by decide) rfl rfl (pa_cons (pe_dn dSRows hr (pa_cons (pv 1) (pa_cons (pe_op op_add pe_int (pe_dn dDraw hr (pa_cons (pv 1) (pa_cons pe_int pa_nil)))) (pa_cons pe_int pa_nil)))) (pa_cons (pe_dn dDraw hr (pa_cons (pv 1) (pa_cons pe_int pa_nil))) pa_nil)) (by rfl))
      (pss_cons (ps_set (i := 4) sc_law.nd rfl (Or.inl rfl) (pe_dn dMade hr (pa_cons (pv 2) pa_nil)))
      (pss_cons (ps_asg (pe_dn dLog hr (pa_cons (pv 2) (pa_cons (pv 3) pa_nil))) (pg_tup (by rfl) (pgs_cons (pg_name (i := 5) sc_law.nd rfl (.inl rfl)) (pgs_cons (pg_name (i := 6) sc_law.nd rfl (.inl rfl)) pgs_nil))))
      (pss_cons (ps_set (i := 7) sc_law.nd rfl (Or.inl rfl) (pe_dx (K := K) dLogP rfl hr at_E0 (pa_cons (pv 4) (pa_cons (pv 3) pa_nil))))
      (pss_cons (ps_if (pt_not (pt_val (pe_dn dLogR hr (pa_cons (pv 7) (pa_cons (pv 5) (pa_cons (pv 6) pa_nil)))))) (pss_one (ps_ret pe_bl)) pss_nil)
      (pss_cons (ps_set (i := 8) sc_law.nd rfl (Or.inl rfl) pe_dnewT)
      (pss_cons (ps_for PassesOwn.never rfl (pi_list (pv 5)) (pg_name (i := 9) sc_law.nd rfl (.inl rfl)) (pss_one (ps_dput hu (pv 8) (pe_ix (ix_tupK (K := K) rfl) (pv 9) pe_int (fun _ _ => rfl)) (pe_ix (ix_tupK (K := K) rfl) (pv 9) pe_int (fun _ _ => rfl)) rfl)))
      (pss_cons (ps_for PassesOwn.never rfl (pi_range1 (by rfl) T.range (pa_cons (pe_callB (call_min2 rfl) (by rfl) T.min (by decide +kernel) (pa_cons pe_int (pa_cons (pe_callB call_len_seq (by rfl) T.len PySem.boot_len (pa_cons (pv 5) pa_nil)) pa_nil))) pa_nil)) (pg_name (i := 10) sc_law.nd rfl (.inl rfl)) (pss_cons (ps_par (i := 11) (j := 12) (by rfl) sc_law.nd rfl rfl (by decide) rfl rfl (pa_cons (pe_ix (ix_tupK (K := K) rfl) (pe_ix ix_list (pv 5) (pe_dn dDraw hr (pa_cons (pv 1) (pa_cons (pe_callB call_len_seq (by rfl) T.len PySem.boot_len (pa_cons (pv 5) pa_nil)) pa_nil))) (fun _ _ => rfl)) pe_int (fun _ _ => rfl)) (pa_cons (pe_dn dDraw hr (pa_cons (pv 1) (pa_cons pe_int pa_nil))) pa_nil)) (by rfl))
      (pss_cons (ps_if (pt_cmpR (op_neD hr.units) (pe_dn dTermT hr (pa_cons (pv 7) (pa_cons (pv 11) (pa_cons (pv 12) pa_nil)))) (pe_dn dTerm hr (pa_cons (pv 8) (pa_cons (pv 11) (pa_cons (pv 12) pa_nil)))) (nomark _)) (pss_one (ps_ret pe_bl)) pss_nil)
      (pss_cons (ps_set (i := 13) sc_law.nd rfl (Or.inl rfl) (pe_ix ix_list (pe_lst (pa_cons pe_int (pa_cons (pe_un un_neg pe_int) (pa_cons pe_int pa_nil)))) (pv 10) (fun _ _ => rfl)))
      (pss_one (ps_if (pt_cmpR (op_neD hr.units) (pe_dn dTermT hr (pa_cons (pv 7) (pa_cons (pv 11) (pa_cons (pv 13) pa_nil)))) (pe_tup (pa_cons pe_str (pa_cons (pv 13) pa_nil))) (nomark _)) (pss_one (ps_ret pe_bl)) pss_nil))))))
      (pss_cons (ps_for PassesOwn.never rfl (pi_tup (pe_tup (pa_cons (pe_tup (pa_cons (pe_callB call_len_seq (by rfl) T.len PySem.boot_len (pa_cons (pv 2) pa_nil)) (pa_cons pe_int (pa_cons pe_int pa_nil)))) (pa_cons (pe_tup (pa_cons pe_int (pa_cons (pe_un un_neg pe_int) (pa_cons pe_int pa_nil)))) (pa_cons (pe_tup (pa_cons pe_int (pa_cons pe_int (pa_cons pe_int pa_nil)))) (pa_cons (pe_tup (pa_cons pe_int (pa_cons pe_int (pa_cons pe_int pa_nil)))) pa_nil)))))) (pg_name (i := 11) sc_law.nd rfl (.inl rfl)) (pss_one (ps_if (pt_cmpR (op_neD hr.units) (pe_dn dTermT hr (pa_cons (pv 7) (pa_cons (pv 11) (pa_cons pe_int pa_nil)))) (pe_tup (pa_cons pe_str (pa_cons (pv 11) pa_nil))) (nomark _)) (pss_one (ps_ret pe_bl)) pss_nil)))
      (pss_cons (ps_set (i := 14) sc_law.nd rfl (Or.inr rfl) (pe_callB (call_min2 rfl) (by rfl) T.min (by decide +kernel) (pa_cons (pe_op op_pow pe_int pe_int) (pa_cons (pe_op op_add (pe_dn dBig hr (pa_cons (pv 1) (pa_cons (pe_op op_pow pe_int pe_int) pa_nil))) (pe_op op_pow pe_int pe_int)) pa_nil))))
      (pss_cons (ps_set (i := 15) sc_law.nd rfl (Or.inl rfl) (pe_callB (cr_sum rfl) (by rfl) T.sum (by decide +kernel) (pa_cons (pe_lc (own := [("_law_row", 9)]) (g := gName 9) (tt := tYes) rfl sc_law.nd (pi_list (pv 2)) (blkOk_by (N := ["_law_script", "_law_pen_here", "_law_rows", "_law_n", "_law_program", "_law_found", "_law_lasts", "_law_log_here", "_law_table", "_law_row", "_law_turn", "_law_work", "_law_depth", "_law_bad", "_law_far", "_law_many", "_law_told_here"]) (sc := defScope s_law) (by decide +kernel)) (fun _ _ _ _ _ => (pg_name (i := 9) sc_law.nd rfl (.inl rfl))) (fun _ _ _ _ _ => pts_nil) (fun _ _ _ _ _ => (pe_dn dTurnsF hr (pa_cons (pv 9) (pa_cons (pv 14) pa_nil))))) pa_nil)))
      (pss_cons (ps_set (i := 16) sc_law.nd rfl (Or.inl rfl) (pe_dn dTold hr (pa_cons (pv 4) (pa_cons (pv 14) pa_nil))))
      (pss_cons (ps_if (PW.pt (pw_and (pt_cmpR op_gt (pv 15) pe_int (nomark _)) (pw_and1 (pt_cmpR (op_neD hr.units) (pv 16) (pe_tup (pa_cons pe_str (pa_cons (pv 15) pa_nil))) (nomark _))))) (pss_one (ps_ret pe_bl)) pss_nil)
      (pss_cons (ps_set (i := 13) sc_law.nd rfl (Or.inl rfl) (pe_ix ix_list (pe_lst (pa_cons (pe_un un_neg pe_int) (pa_cons (pe_op op_add (pe_op op_pow pe_int pe_int) pe_int) (pa_cons (pe_un un_neg (pv 14)) (pa_cons pe_bl (pa_cons pe_str (pa_cons pe_non (pa_cons (pe_tup (pa_cons pe_int pa_nil)) pa_nil)))))))) (pe_dn dDraw hr (pa_cons (pv 1) (pa_cons pe_int pa_nil))) (fun _ _ => rfl)))
      (pss_cons (ps_if (PW.pt (pw_or (pt_cmpR op_notN (pe_meth (pv 7) G.cl cl Fl (hr.mono (by decide)) hbl .nil pass0 (pa_cons pe_str (pa_cons pe_int pa_nil))) pe_non (nomark _)) (pw_or1 (pt_cmpR op_notN (pe_meth (pv 7) G.cl cl Fl (hr.mono (by decide)) hbl .nil pass0 (pa_cons pe_str (pa_cons (pe_un un_neg pe_int) pa_nil))) pe_non (nomark _))))) (pss_one (ps_ret pe_bl)) pss_nil)
      (pss_one (ps_ret (pe_and (pe_cmpR (op_eqD hr.units) (pe_dn dTold hr (pa_cons (pv 4) (pa_cons (pv 13) pa_nil))) (pe_tup (pa_cons pe_str (pa_cons (pv 13) pa_nil))) (nomark _)) (pe_one (pe_cmpR (op_eqD hr.units) (pe_fld (pv 7) rfl) (pe_callTy call_tuple_of (by rfl) T.tuple (by decide +kernel) (pa_cons (pe_lc (own := [("_law_row", 9)]) (g := gName 9) (tt := tYes) rfl sc_law.nd (pi_list (pv 5)) (blkOk_by (N := ["_law_script", "_law_pen_here", "_law_rows", "_law_n", "_law_program", "_law_found", "_law_lasts", "_law_log_here", "_law_table", "_law_row", "_law_turn", "_law_work", "_law_depth", "_law_bad", "_law_far", "_law_many", "_law_told_here"]) (sc := defScope s_law) (by decide +kernel)) (fun _ _ _ _ _ => (pg_name (i := 9) sc_law.nd rfl (.inl rfl))) (fun _ _ _ _ _ => pts_nil) (fun _ _ _ _ _ => (pe_ix (ix_tupK (K := K) rfl) (pv 9) pe_int (fun _ _ => rfl)))) pa_nil)) (nomark _)))))))))))))))))))))), ?_⟩
    refine ⟨_, rfl, sc, ns, rfl, hS, hl, fun H1 p s1 hp hP => ?_⟩
    obtain ⟨pc, hP⟩ := Pen.penC hP
    refine normG (σ' := [some (.ref sc), some (.ref p), none, none, none, none, none, none, none, none, none, none, none, none, none, none, none]) rfl ?_
    refine ⟨_, rfl, _, rfl, p, 3, 0, pc, rfl, by decide, by decide, by decide, hP, fun H2 d d0 d1 hP2 k2 => ⟨_, _, rfl, rfl, ?_⟩⟩
    obtain ⟨N, hN⟩ : ∃ N : Nat, (N : Int) = 1 + d := ⟨(1 + d).toNat, by omega⟩
    refine ⟨p, pc, N, 1, (by rw [hN]; rfl), by omega, by omega, by omega, hP2, fun H3 r xs ls hr3 dx3 lL ok hP3 k3 nr => ?_⟩
    have l3 : ls.length ≤ 3 := by omega
    refine ⟨_, rfl, p, 7, 1 + 700, pc, rfl, by decide, by decide, by decide, hP3, fun H4 n n0 n1 hP4 k4 => ?_⟩
    have n8 : n ≤ 8 := by omega
    have hr4 := hP3.lst k4 hr3
    have dx4 := dx3.keepC hP3 k4
    refine ⟨_, _, rfl, ?_⟩
    refine norm (N := fun σ _ => _) (σ' := [some (.ref sc), some (.ref p), some (.ref r), some (.int n), none, none, none, none, none, none, none, none, none, none, none, none, none]) rfl ?_
    dsimp only
    refine ⟨_, rfl, r, xs, ls, rfl, hr4, dx4, l3, ok, fun v H5 s5 ob => ?_⟩
    refine normG (σ' := [some (.ref sc), some (.ref p), some (.ref r), some (.int n), some v, none, none, none, none, none, none, none, none, none, none, none, none]) rfl ?_
    refine ⟨_, rfl, _, rfl, r, xs, ls, n, rfl, s5 _ _ hr4, dx4.to (.of s5), l3, ok, n0, n8, fun T0 F L H6 fs kvs s6 eT eF dF eL dL nF nL => ?_⟩
    refine ⟨T0, _, rfl, SqT.of eT, rfl, _, _, rfl, ?_⟩
    refine normG (σ' := [some (.ref sc), some (.ref p), some (.ref r), some (.int n), some v, some (.ref F), none, none, none, none, none, none, none, none, none, none, none]) rfl ?_
    refine ⟨_, _, rfl, ?_⟩
    refine normG (σ' := [some (.ref sc), some (.ref p), some (.ref r), some (.int n), some v, some (.ref F), some (.ref L), none, none, none, none, none, none, none, none, none, none]) rfl ?_
    refine ⟨rfl, ?_⟩
    have tsm := tot_small ok n0 n8
    have in0 : 0 ≤ n ∧ n ≤ TOP := ⟨n0, Int.le_trans n8 (by decide)⟩
    obtain ⟨W, hW⟩ : ∃ W, W = works ls n := ⟨_, rfl⟩
    obtain ⟨Es, hEs⟩ : ∃ Es, Es = (lg ls n (works ls n)).1 := ⟨_, rfl⟩
    refine ⟨_, rfl, _, rfl, v, .int n, ls, rfl, ob.same s6, l3, ok, .inr ⟨n, rfl, fun h => absurd in0 h, fun _ => ⟨fun h => absurd h (by omega), fun _ g H7 s7 log => ?_⟩⟩⟩
    refine normG (σ' := [some (.ref sc), some (.ref p), some (.ref r), some (.int n), some v, some (.ref F), some (.ref L), some (.ref g), none, none, none, none, none, none, none, none, none]) rfl ?_
    have okE := lg_allok (n := n) ok
    have cls := lg_closed (ls := ls) (n := n)
    have mapW := lg_works (ls := ls) (n := n)
    have lst : ∀ c, dGet (lg ls n (works ls n)).2 c = lastW W Es c := fun c => by
      rw [hW, hEs]
      exact lg_lastW
    rw [← hEs, ← hW] at log cls
    rw [← hEs] at okE dF mapW
    rw [← hW] at mapW
    have lWE : W.length = Es.length := by rw [← mapW, List.length_map]
    have w540 : W.length ≤ 540 := by
      rw [hW]
      exact works_len ok l3 n0 n8
    have eF7 := s7 _ _ eF
    have eL7 := s7 _ _ eL
    have dF7 := dF.to (.of s7)
    have dL7 := dL.to (.of s7)
    have lEs3 : ∀ e ∈ Es, e.2.2.length ≤ 3 := fun e he => (okE e he).2.1
    refine ⟨_, rfl, _, rfl, _, rfl, g, F, L, Es, fs, kvs, _, rfl, (by rw [mapW]; exact log), eF7, dF7, by omega, okE, eL7, dL7, (by rw [mapW]; exact lst), fun H8 s8 => ⟨_, rfl, if_no rfl ?_⟩⟩
    have hP8 : PenC H8 p pc (1 + 700 + 1) := hP4.same (s5.trans (s6.trans (s7.trans s8)))
    have s48 := s5.trans (s6.trans (s7.trans s8))
    have eF8 := s8 _ _ eF7
    have dF8 := dF7.to (.of s8)
    refine fun Tb hTb => ?_
    have sTb := Same.new (.dT []) (Same.refl H8) hTb
    obtain ⟨H9, eH9⟩ : ∃ X, X = upd H8 Tb (.dT []) := ⟨_, rfl⟩
    have eTb9 : H9 Tb = some (.dT []) := by rw [eH9]; exact upd_same
    rw [← eH9] at sTb
    rw [← eH9]
    refine normG (σ' := [some (.ref sc), some (.ref p), some (.ref r), some (.int n), some v, some (.ref F), some (.ref L), some (.ref g), some (.ref Tb), none, none, none, none, none, none, none, none]) rfl ?_
    have stD : ∀ {i : Nat}, i ≤ Es.length → (Es.take i).map (·.1) = W.take i := fun {i} _ => by rw [← mapW, List.map_take]
    refine ⟨_, rfl, F, rfl, ⟨_, SqL.of (sTb _ _ eF8)⟩, ?_⟩
    have lfs : fs.length = Es.length := by rw [dF8.len, List.length_map]
    refine for_list (K := K) (xs := fs) (fun i σ H' => ∃ (v9 : Option V) (kt : List (List Key × V)), σ = [some (.ref sc), some (.ref p), some (.ref r), some (.int n), some v, some (.ref F), some (.ref L), some (.ref g), some (.ref Tb), v9, none, none, none, none, none, none, none] ∧
        H' Tb = some (.dT kt) ∧ (∀ w, w ∈ W.take i → ∃ j e u, lastIx (W.take i) w = some j ∧ Es[j]? = some e ∧ valV kt (wK w) = some u ∧ DT H' u (.tuple (e.2.2.map tkD))) ∧ kt.length ≤ i ∧ Same H8 H')
      ⟨_, [], rfl, eTb9, (fun w hw => absurd hw List.not_mem_nil), Nat.le_refl _, sTb⟩ (fun i σ H' _ z => by
        obtain ⟨_, _, _, _, _, _, s⟩ := z
        exact SqL.of (s _ _ eF8)) ?_ ?_
    · rintro i rv σ Ha hrv ⟨v9, kt, rfl, eT, tabi, lk, sa⟩
      obtain ⟨e, he, dv⟩ := (dF8.to (.of sa)).map' hrv
      obtain ⟨ta, a, b, c, rfl, hta, da, db, dc⟩ := dt_ent dv
      obtain ⟨tw, rfl, htw⟩ := dt_wI da
      have hWi : W[i]? = some e.1 := by
        rw [← mapW, List.getElem?_map, he]
        rfl
      have hi : i < Es.length := (List.getElem?_eq_some_iff.mp he).1
      refine normG (σ' := [some (.ref sc), some (.ref p), some (.ref r), some (.int n), some v, some (.ref F), some (.ref L), some (.ref g), some (.ref Tb), some (.ref ta), none, none, none, none, none, none, none]) rfl ?_
      refine ⟨_, rfl, ta, _, _, _, rfl, rfl, SqT.of hta, at2, _, rfl, _, rfl, ta, _, _, _, rfl, rfl, SqT.of hta, at0, Tb, _, rfl, DPut.t eT (k := wK e.1) htw (sz1m _ (by omega)), ?_⟩
      have tsU : TSame Ha (upd Ha Tb (.dT (putK kt (wK e.1) c))) := .updT eT
      refine ⟨_, _, rfl, upd_same, fun w hw => ?_, Nat.le_trans (length_putK _ _ _) (by omega), fun b o eb => ?_⟩
      · rw [valV_put, lastIx_take hWi]
        by_cases z : e.1 = w
        · rw [if_pos z, if_pos (by rw [z])]
          exact ⟨i, e, c, rfl, he, rfl, dc.to tsU⟩
        · rw [if_neg z, if_neg (fun y => z (wK_inj y).symm)]
          rw [List.take_add_one, hWi] at hw
          have hw2 : w ∈ W.take i := by
            rcases List.mem_append.mp hw with y | y
            · exact y
            · exact absurd (List.mem_singleton.mp y).symm z
          obtain ⟨j, e2, u, q1, q2, q3, q4⟩ := tabi w hw2
          exact ⟨j, e2, u, q1, q2, q3, q4.to tsU⟩
      · rw [upd_ne (ne_of_none eb hTb)]
        exact sa _ _ eb
    rintro σ Ha ⟨v9, kt, rfl, eTa, taba, _, sa⟩
    have lfW : fs.length = W.length := by rw [lfs, lWE]
    rw [lfW, List.take_length] at taba
    have taba : TabOk Ha kt W (tbl W Es) := fun w hw => by
      obtain ⟨j, e, u, q1, q2, q3, q4⟩ := taba w hw
      exact ⟨u, q3, by rw [tbl_at q1 q2]; exact q4⟩
    have cl3 : ∀ w ∈ W, (tbl W Es w).length ≤ 3 ∧ ∀ t ∈ tbl W Es w, ∀ u, t.2 = some u → u ∈ W := fun w hw => by
      obtain ⟨i, hi⟩ := last_in hw
      obtain ⟨e, he⟩ : ∃ e, Es[i]? = some e := ⟨_, List.getElem?_eq_getElem (by
        have := (List.getElem?_eq_some_iff.mp (lastIx_at hi)).1
        omega)⟩
      rw [tbl_at hi he]
      exact ⟨lEs3 e (List.mem_of_getElem? he), cls e (List.mem_of_getElem? he)⟩
    have s4a := s48.trans sa
    have S0 : Sta K p pc r v F g Tb xs ls fs Es W kt Ha 800 :=
      ⟨(hP8.same sa).mono (by decide), s4a _ _ hr4, dx4.to (.of s4a), ob.same (s6.trans (s7.trans (s8.trans sa))), sa _ _ eF8, dF8.to (.of sa), log.same (s8.trans sa), eTa, taba⟩
    clear taba eTa sa s4a
    refine ⟨_, rfl, F, fs, rfl, .inl (SqL.of S0.found), 3, _, rfl, _, rfl, ?_⟩
    obtain ⟨M, hM, M3, Mf⟩ : ∃ M : Nat, (if (fs.length : Int) < 3 then (fs.length : Int) else 3) = (M : Int) ∧ M ≤ 3 ∧ M ≤ fs.length := by
      by_cases z : (fs.length : Int) < 3
      · exact ⟨fs.length, by rw [if_pos z], by omega, Nat.le_refl _⟩
      · exact ⟨3, by rw [if_neg z]; rfl, Nat.le_refl _, by omega⟩
    rw [hM]
    refine ⟨by omega, by omega, ?_⟩
    rw [Int.toNat_natCast]
    refine for_range (lo := 0) (n := M) (fun i σ H' => ∃ (v10 v11 v12 v13 : Option V), σ = [some (.ref sc), some (.ref p), some (.ref r), some (.int n), some v, some (.ref F), some (.ref L), some (.ref g), some (.ref Tb), v9, v10, v11, v12, v13, none, none, none] ∧ Sta K p pc r v F g Tb xs ls fs Es W kt H' (800 + 2 * i)) ⟨_, _, _, _, rfl, S0⟩ ?_ ?_
    · rintro i σ Hb hi ⟨v10, v11, v12, v13, rfl, S⟩
      refine normG (σ' := [some (.ref sc), some (.ref p), some (.ref r), some (.int n), some v, some (.ref F), some (.ref L), some (.ref g), some (.ref Tb), v9, some (.int (0 + (i : Int))), v11, v12, v13, none, none, none]) rfl ?_
      refine ⟨_, rfl, _, rfl, _, rfl, F, fs, rfl, .inl (SqL.of S.found), p, (fs.length : Int), 800 + 2 * i, pc, rfl, by omega, by omega, by omega, S.pen, fun H1 d d0 d1 hP1 k1 => ?_⟩
      have S1 := S.keep k1 hP1
      obtain ⟨j, rfl, hj⟩ := drawn d0 d1
      have hfj := List.getElem?_eq_getElem hj
      obtain ⟨e, he, de⟩ := S1.dfound.map' hfj
      obtain ⟨te, a, b, c, ete, hte, da, db, dc⟩ := dt_ent de
      rw [ete] at hfj
      obtain ⟨tw, rfl, htw⟩ := dt_wI da
      have memW : e.1 ∈ W := by
        rw [← mapW]
        exact List.mem_map.mpr ⟨e, List.mem_of_getElem? he, rfl⟩
      refine ⟨F, fs, _, _, rfl, rfl, SqL.of S1.found, atI_nat hfj, te, _, _, _, rfl, rfl, SqT.of hte, at0, ?_⟩
      refine ⟨_, rfl, p, 5, 800 + 2 * i + 1, pc, rfl, by decide, by decide, by omega, S1.pen, fun H2 d2 e0 e1 hP2 k2 => ⟨_, _, rfl, ?_⟩⟩
      have S2 := S1.keep k2 hP2
      have htw2 := S1.pen.tup k2 htw
      refine norm (N := fun σ _ => _) (σ' := [some (.ref sc), some (.ref p), some (.ref r), some (.int n), some v, some (.ref F), some (.ref L), some (.ref g), some (.ref Tb), v9, some (.int (0 + (i : Int))), some (.ref tw), some (.int d2), v13, none, none, none]) rfl ?_
      dsimp only
      have d4 : 0 ≤ d2 ∧ d2 ≤ 4 := ⟨e0, by omega⟩
      refine ⟨_, rfl, _, rfl, _, rfl, g, tw, d2, e.1, W, Es, rfl, S2.log, cls, lWE, lEs3, htw2, fun z => absurd memW z, fun _ z => absurd d4 z, fun _ _ x1 H3 s3 dx1 => ?_⟩
      have S3 := S2.same s3
      have dw3 : DT H3 (.ref tw) (wD e.1) := .tup (s3 _ _ htw2) (.cons (.int _) (.cons (.int _) (.cons (.int _) .nil)))
      refine ⟨_, rfl, _, rfl, _, rfl, Tb, .ref tw, d2.toNat, e.1, kt, W, tbl W Es, (by rw [Int.toNat_of_nonneg e0]; rfl), by omega, S3.tab, S3.dtab, cl3, dw3, memW, fun x2 H4 s4 dx2 => ?_⟩
      have S4 := S3.same s4
      have sh : SeqAt.shaped (termD (tbl W Es) d2.toNat e.1) = true := (lay_term okE).shaped (by omega)
      refine ⟨_, _, DT.dp _ (dx1.to (.of s4)), DT.dp _ dx2, sh, sh, ?_⟩
      rw [SeqAt.eqv_refl _ (SeqAt.canLay_of_shaped sh)]
      refine ⟨_, rfl, if_no rfl ?_⟩
      obtain ⟨bv, hbv, nb⟩ := bads_at (i := i) (by omega)
      refine ⟨_, rfl, sz3, fun B hB => ?_⟩
      have s5 := Same.new (.lst [.int 5, .int (-1), .int 7]) (Same.refl H4) hB
      obtain ⟨H5', eH5⟩ : ∃ X, X = upd H4 B (.lst [.int 5, .int (-1), .int 7]) := ⟨_, rfl⟩
      have eB5 : H5' B = some (.lst [.int 5, .int (-1), .int 7]) := by rw [eH5]; exact upd_same
      rw [← eH5] at s5
      rw [← eH5]
      have S5 := S4.same s5
      have htw5 := s5 _ _ (s4 _ _ (s3 _ _ htw2))
      refine ⟨_, rfl, B, _, _, _, rfl, rfl, SqL.of eB5, (by rw [Int.zero_add]; exact atI_nat hbv), ?_⟩
      refine normG (σ' := [some (.ref sc), some (.ref p), some (.ref r), some (.int n), some v, some (.ref F), some (.ref L), some (.ref g), some (.ref Tb), v9, some (.int (0 + (i : Int))), some (.ref tw), some (.int d2), some (.int bv), none, none, none]) rfl ?_
      refine ⟨_, rfl, _, rfl, _, rfl, g, tw, bv, e.1, W, Es, rfl, S5.log, cls, lWE, lEs3, htw5, fun z => absurd memW z, fun _ _ t1 H6' s6' ht1 => ?_, fun _ z => absurd z nb⟩
      refine ⟨_, rfl, sz2, fun t2 ht2 => ?_⟩
      have s7' := Same.new (.tup [.str "depth", .int bv]) (Same.refl H6') ht2
      have sh2 : SeqAt.shaped (.tuple [.str "depth", .int bv]) = true := (lay_ss (by decide +kernel) ((lay_int bv).mono (by decide))).shaped (by decide)
      refine ⟨.tuple [.str "depth", .int bv], .tuple [.str "depth", .int bv], DT.dp _ (.tup (s7' _ _ ht1) (.cons (.str _) (.cons (.int _) .nil))), DT.dp _ (.tup upd_same (.cons (.str _) (.cons (.int _) .nil))), sh2, sh2, ?_⟩
      rw [SeqAt.eqv_refl _ (SeqAt.canLay_of_shaped sh2)]
      exact ⟨_, rfl, if_no rfl ⟨_, _, _, _, rfl, (S5.same (s6'.trans s7')).up (by omega)⟩⟩
    rintro σ Hb ⟨v10, v11, v12, v13, rfl, S⟩
    refine ⟨_, rfl, r, xs, rfl, .inl (SqL.of S.rows), sz3, fun A1 hA1 => ⟨_, rfl, sz3, fun A2 hA2 => ⟨sz3, fun A3 hA3 => ⟨sz3, fun A4 hA4 => ⟨sz4, fun A5 hA5 => ?_⟩⟩⟩⟩⟩
    have lxs : (xs.length : Int) = (ls.length : Int) := by rw [S.drows.len, List.length_map]
    have sA1 := Same.new (.tup [.int (xs.length : Nat), .int 0, .int 0]) (Same.refl Hb) hA1
    have sA2 := Same.new (.tup [.int 0, .int (-1), .int 0]) (Same.refl _) hA2
    have sA3 := Same.new (.tup [.int 0, .int 0, .int 3]) (Same.refl _) hA3
    have sA4 := Same.new (.tup [.int 0, .int 400, .int 0]) (Same.refl _) hA4
    have sA5 := Same.new (.tup [.ref A1, .ref A2, .ref A3, .ref A4]) (Same.refl _) hA5
    have sAll := sA1.trans (sA2.trans (sA3.trans (sA4.trans sA5)))
    have q1 := sA5 _ _ (sA4 _ _ (sA3 _ _ (sA2 _ _ (show (upd Hb A1 (.tup [.int (xs.length : Nat), .int 0, .int 0])) A1 = _ from upd_same))))
    have q2 := sA5 _ _ (sA4 _ _ (sA3 _ _ (show (upd (upd Hb A1 (.tup [.int (xs.length : Nat), .int 0, .int 0])) A2 (.tup [.int 0, .int (-1), .int 0])) A2 = _ from upd_same)))
    have q3 := sA5 _ _ (sA4 _ _ (show (upd (upd (upd Hb A1 (.tup [.int (xs.length : Nat), .int 0, .int 0])) A2 (.tup [.int 0, .int (-1), .int 0])) A3 (.tup [.int 0, .int 0, .int 3])) A3 = _ from upd_same))
    have q4 := sA5 _ _ (show (upd (upd (upd (upd Hb A1 (.tup [.int (xs.length : Nat), .int 0, .int 0])) A2 (.tup [.int 0, .int (-1), .int 0])) A3 (.tup [.int 0, .int 0, .int 3])) A4 (.tup [.int 0, .int 400, .int 0])) A4 = _ from upd_same)
    obtain ⟨Hc, eHc⟩ : ∃ X, X = upd (upd (upd (upd (upd Hb A1 (.tup [.int (xs.length : Nat), .int 0, .int 0])) A2 (.tup [.int 0, .int (-1), .int 0])) A3 (.tup [.int 0, .int 0, .int 3])) A4 (.tup [.int 0, .int 400, .int 0])) A5 (.tup [.ref A1, .ref A2, .ref A3, .ref A4]) := ⟨_, rfl⟩
    have q5 : Hc A5 = some (.tup [.ref A1, .ref A2, .ref A3, .ref A4]) := by rw [eHc]; exact upd_same
    rw [← eHc] at sAll q1 q2 q3 q4
    clear sA1 sA2 sA3 sA4 sA5
    rw [← eHc]
    have Sc := S.same sAll
    have dts : DTs Hc [.ref A1, .ref A2, .ref A3, .ref A4] (([((ls.length : Int), 0, 0), (0, -1, 0), (0, 0, 3), (0, 400, 0)] : List W3).map wD) := by
      rw [lxs] at q1
      exact .cons (.tup q1 (.cons (.int _) (.cons (.int _) (.cons (.int _) .nil)))) (.cons (.tup q2 (.cons (.int _) (.cons (.int _) (.cons (.int _) .nil)))) (.cons (.tup q3 (.cons (.int _) (.cons (.int _) (.cons (.int _) .nil)))) (.cons (.tup q4 (.cons (.int _) (.cons (.int _) (.cons (.int _) .nil)))) .nil)))
    refine ⟨A5, rfl, ⟨_, SqT.of q5⟩, ?_⟩
    refine for_tup (K := K) (xs := [.ref A1, .ref A2, .ref A3, .ref A4]) (fun i σ H' => ∃ v11 : Option V, σ = [some (.ref sc), some (.ref p), some (.ref r), some (.int n), some v, some (.ref F), some (.ref L), some (.ref g), some (.ref Tb), v9, v10, v11, v12, v13, none, none, none] ∧ Sta K p pc r v F g Tb xs ls fs Es W kt H' (800 + 2 * M) ∧ Same Hc H') ⟨_, rfl, Sc, Same.refl Hc⟩ (fun i σ H' _ z => by
      obtain ⟨_, _, _, s⟩ := z
      exact SqT.of (s _ _ q5)) ?_ ?_
    · rintro i wv σ Hd hwv ⟨v11, rfl, S, sd⟩
      obtain ⟨w0, hw0, dw0⟩ := (dts.to (.of sd)).map' hwv
      obtain ⟨tw, rfl, htw⟩ := dt_wI dw0
      have nin : w0 ∉ W := by
        have m := List.mem_of_getElem? hw0
        simp only [List.mem_cons, List.not_mem_nil, or_false] at m
        rw [hW]
        refine not_work ok n0 n8 ?_
        rcases m with rfl | rfl | rfl | rfl
        · exact .inl rfl
        · exact .inr (.inl (by decide))
        · exact .inr (.inr (.inr rfl))
        · exact .inr (.inr (.inl (by decide)))
      refine normG (σ' := [some (.ref sc), some (.ref p), some (.ref r), some (.int n), some v, some (.ref F), some (.ref L), some (.ref g), some (.ref Tb), v9, v10, some (.ref tw), v12, v13, none, none, none]) rfl ?_
      refine ⟨_, rfl, _, rfl, g, tw, 5, w0, W, Es, rfl, S.log, cls, lWE, lEs3, htw, fun _ t1 H6' s6' ht1 => ?_, fun z => absurd z nin, fun z => absurd z nin⟩
      refine ⟨_, rfl, sz2, fun t2 ht2 => ?_⟩
      have s7' := Same.new (.tup [.str "none", .ref tw]) (Same.refl H6') ht2
      have s67 := s6'.trans s7'
      have sh2 : SeqAt.shaped (.tuple [.str "none", wD w0]) = true := (lay_ss (by decide +kernel) (lay_w w0)).shaped (by decide)
      refine ⟨.tuple [.str "none", wD w0], .tuple [.str "none", wD w0], DT.dp _ (.tup (s7' _ _ ht1) (.cons (.str _) (.cons (dw0.to (.of s67)) .nil))), DT.dp _ (.tup upd_same (.cons (.str _) (.cons (dw0.to (.of s67)) .nil))), sh2, sh2, ?_⟩
      rw [SeqAt.eqv_refl _ (SeqAt.canLay_of_shaped sh2)]
      exact ⟨_, rfl, if_no rfl ⟨_, rfl, S.same s67, sd.trans s67⟩⟩
    rintro σ Hd ⟨v11, rfl, S, _⟩
    clear dts q1 q2 q3 q4 q5 Sc sAll eHc
    refine ⟨_, _, rfl, rfl, cp30, _, rfl, _, _, rfl, rfl, cp30, p, pc, _, 800 + 2 * M, rfl, by decide, by decide, by omega, S.pen, fun He d d0 d1 hPe ke => ⟨_, _, rfl, rfl, cp7, _, _, rfl, rfl, _, _, rfl, ?_⟩⟩
    have Se := S.keep ke hPe
    obtain ⟨fv, hfv, f1, f2⟩ := far_in d0
    dsimp only
    rw [hfv]
    refine normG (σ' := [some (.ref sc), some (.ref p), some (.ref r), some (.int n), some v, some (.ref F), some (.ref L), some (.ref g), some (.ref Tb), v9, v10, v11, v12, v13, some (.int fv), none, none]) rfl ?_
    refine ⟨_, rfl, r, rfl, ⟨_, SqL.of Se.rows⟩, fun D hD => ?_⟩
    have sD := Same.new (.lst []) (Same.refl He) hD
    refine lc_list (K := K) (xs := xs) (fun b Hc => Hc D = some (.lst (((ls.take b).map fun l => lpN l fv).map V.int)) ∧ Same He Hc) ⟨upd_same, sD⟩ (fun b Hc _ z => SqL.of (z.2 _ _ Se.rows)) ?_ ?_
    · rintro b rv Hc hrv ⟨eD, scc⟩
      obtain ⟨l, el, dl⟩ := (Se.drows.to (.of scc)).map' hrv
      refine ⟨rfl, yes_of ?_⟩
      refine ⟨_, rfl, _, rfl, rv, l, fv, rfl, dl, ok l (List.mem_of_getElem? el), _, eD, sz1l _ (by
        rw [List.length_map, List.length_map, List.length_take]
        omega), ?_, fun b' o eb => ?_⟩
      · rw [upd_same, List.take_add_one, el, List.map_append, List.map_append]
        rfl
      · rw [upd_ne (ne_of_none eb hD)]
        exact scc b' o eb
    rintro Hf ⟨eD, sf⟩
    have lxl : xs.length = ls.length := by rw [S.drows.len, List.length_map]
    rw [lxl, List.take_length] at eD
    have Sf := Se.same sf
    refine ⟨D, _, rfl, SqL.of eD, ?_⟩
    refine normG (σ' := [some (.ref sc), some (.ref p), some (.ref r), some (.int n), some v, some (.ref F), some (.ref L), some (.ref g), some (.ref Tb), v9, v10, v11, v12, v13, some (.int fv), some (.int (tot ls fv)), none]) rfl ?_
    dsimp only
    refine mid (fun σ' H' => ∃ u, σ' = [some (.ref sc), some (.ref p), some (.ref r), some (.int n), some v, some (.ref F), some (.ref L), some (.ref g), some (.ref Tb), v9, v10, v11, v12, v13, some (.int fv), some (.int (tot ls fv)), some u] ∧ ((20000 < tot ls fv ∧ ∃ t, u = .ref t ∧ H' t = some (.tup [.str "long", .int (tot ls fv)])) ∨ tot ls fv ≤ 20000) ∧ Sta K p pc r v F g Tb xs ls fs Es W kt H' (800 + 2 * M + 20)) (fun key => ?_) ?_
    · exact ⟨_, rfl, _, rfl, v, .int fv, ls, rfl, Sf.prog, l3, ok, .inr ⟨fv, rfl, fun h => absurd ⟨by omega, f2⟩ h, fun _ => ⟨fun hm t H' s' ht => key _ _ ⟨_, rfl, .inl ⟨hm, t, rfl, ht⟩, Sf.same s'⟩, fun hm m H' s' => key _ _ ⟨_, rfl, .inr hm, Sf.same s'⟩⟩⟩⟩
    rintro σ Hg ⟨u, rfl, cs, S⟩
    refine mid (fun σ' H' => σ' = [some (.ref sc), some (.ref p), some (.ref r), some (.int n), some v, some (.ref F), some (.ref L), some (.ref g), some (.ref Tb), v9, v10, v11, v12, v13, some (.int fv), some (.int (tot ls fv)), some u] ∧ Sta K p pc r v F g Tb xs ls fs Es W kt H' (800 + 2 * M + 20)) (fun key => ?_) ?_
    · refine ⟨_, rfl, _, _, rfl, rfl, _, rfl, ?_⟩
      rcases cs with ⟨hm, t, rfl, ht⟩ | hm
      · rw [decide_eq_true hm]
        refine if_yes rfl ?_
        refine ⟨_, rfl, _, rfl, sz2, fun t2 ht2 => ?_⟩
        have s1 := Same.new (.tup [.str "long", .int (tot ls fv)]) (Same.refl Hg) ht2
        have sh2 : SeqAt.shaped (.tuple [.str "long", .int (tot ls fv)]) = true := (lay_ss (by decide +kernel) ((lay_int _).mono (by decide))).shaped (by decide)
        refine ⟨.tuple [.str "long", .int (tot ls fv)], .tuple [.str "long", .int (tot ls fv)], DT.dp _ (.tup (s1 _ _ ht) (.cons (.str _) (.cons (.int _) .nil))), DT.dp _ (.tup upd_same (.cons (.str _) (.cons (.int _) .nil))), sh2, sh2, ?_⟩
        rw [SeqAt.eqv_refl _ (SeqAt.canLay_of_shaped sh2)]
        exact ⟨_, rfl, if_no rfl (key _ _ ⟨rfl, S.same s1⟩)⟩
      · rw [decide_eq_false (by omega)]
        exact if_no rfl (if_no rfl (key _ _ ⟨rfl, S⟩))
    rintro σ Hg ⟨rfl, S⟩
    refine ⟨_, rfl, _, _, rfl, rfl, cp30, _, _, rfl, rfl, _, rfl, _, rfl, sz1, fun A hA => ⟨sz7, fun B hB => ?_⟩⟩
    have sA := Same.new (.tup [.int 3]) (Same.refl Hg) hA
    have sB := Same.new (.lst [.int (-1), .int (10 ^ Int.toNat 30 + 1), .int (-fv), .bl true, .str "5", .non, .ref A]) (Same.refl _) hB
    have eA := sB _ _ (show (upd Hg A (.tup [.int 3])) A = some (.tup [.int 3]) from upd_same)
    obtain ⟨Hh, eHh⟩ : ∃ X, X = upd (upd Hg A (.tup [.int 3])) B (.lst [.int (-1), .int (10 ^ Int.toNat 30 + 1), .int (-fv), .bl true, .str "5", .non, .ref A]) := ⟨_, rfl⟩
    have eB : Hh B = some (.lst [.int (-1), .int (10 ^ Int.toNat 30 + 1), .int (-fv), .bl true, .str "5", .non, .ref A]) := by rw [eHh]; exact upd_same
    have sAB := sA.trans sB
    rw [← eHh] at sAB eA
    rw [← eHh]
    clear sA sB eHh
    have Sh := S.same sAB
    refine ⟨_, rfl, p, 7, _, pc, rfl, by decide, by decide, by omega, Sh.pen, fun Hi d7 g0 g1 hPi ki => ?_⟩
    have Si := Sh.keep ki hPi
    obtain ⟨j7, rfl, hj7⟩ := drawn (n := 7) g0 g1
    obtain ⟨bv, bd, hbv, dbv, lbd, out⟩ := bads7 eA f1 hj7
    have dbi := dbv.keepC Sh.pen ki
    have outi := out.to (TSame.keepC Sh.pen ki)
    refine ⟨B, _, _, bv, rfl, rfl, SqL.of (Sh.pen.lst ki eB), atI_nat hbv, ?_⟩
    refine normG (σ' := [some (.ref sc), some (.ref p), some (.ref r), some (.int n), some v, some (.ref F), some (.ref L), some (.ref g), some (.ref Tb), v9, v10, v11, v12, some bv, some (.int fv), some (.int (tot ls fv)), some u]) rfl ?_
    obtain ⟨wt, ct, tt, ws, cs, ts, ⟨dx, nd, wd, nk, wk, hg, _⟩, _⟩ := id Si.log
    have no_lw : (lgf wt ct tt nd wd).lookup ("last_writer" : Str) = none := lgf_no (by decide +kernel) (by decide +kernel) (by decide +kernel) (by decide +kernel) (by decide +kernel)
    refine ⟨_, rfl, g, dx, _, rfl, hg, no_lw, g, "A", 0, W, Es, rfl, Si.log, fun x1 Hj sj dj => ⟨rfl, _, rfl, ?_⟩⟩
    rw [lastW_no okE (fun z => absurd z.1 (by decide +kernel))] at dj
    cases dj
    refine if_no rfl ?_
    have Sj := Si.same sj
    refine ⟨_, rfl, g, dx, _, rfl, sj _ _ hg, no_lw, _, rfl, g, "", -1, W, Es, rfl, Sj.log, fun x2 Hk sk dk => ⟨rfl, _, rfl, ?_⟩⟩
    rw [lastW_no okE (fun z => absurd z.1 (by decide +kernel))] at dk
    cases dk
    refine if_no rfl ?_
    have Sk := Sj.same sk
    have sik := sj.trans sk
    refine ⟨_, rfl, _, rfl, v, bv, ls, rfl, Sk.prog, l3, ok, told_of (outi.to (.of sik)) fun t Hl sl ht => ?_⟩
    refine ⟨_, rfl, sz2, fun t2 ht2 => ?_⟩
    have sm := Same.new (.tup [.str "size", bv]) (Same.refl Hl) ht2
    have slm := sl.trans sm
    have sh2 : SeqAt.shaped (.tuple [.str "size", bd]) = true := (lay_ss (by decide +kernel) lbd).shaped (by decide)
    have dbm := dbi.to (.of (sik.trans slm))
    refine ⟨.tuple [.str "size", bd], .tuple [.str "size", bd], DT.dp _ (.tup (sm _ _ ht) (.cons (.str _) (.cons dbm .nil))), DT.dp _ (.tup upd_same (.cons (.str _) (.cons dbm .nil))), sh2, sh2, ?_⟩
    rw [SeqAt.eqv_refl _ (SeqAt.canLay_of_shaped sh2)]
    refine ⟨_, rfl, if_yes rfl ?_⟩
    obtain ⟨Hm, eHm⟩ : ∃ X, X = upd Hl t2 (.tup [.str "size", bv]) := ⟨_, rfl⟩
    rw [← eHm] at slm dbm
    rw [← eHm]
    have Sm := Sk.same slm
    have hgm := slm _ _ (sik _ _ hg)
    obtain ⟨wt', ct', tt', ws', cs', ts', ⟨dx', nd', wd', nk', wk', hg', _⟩, hwt', dw', _⟩ := id Sm.log
    refine ⟨_, rfl, g, _, dx', _, _, rfl, hg', G.cl, G.nW, lgf_w, _, rfl, F, rfl, ⟨_, SqL.of Sm.found⟩, fun D1 hD1 => ?_⟩
    have sD1 := Same.new (.lst []) (Same.refl Hm) hD1
    refine lc_list (K := K) (xs := fs) (fun i Hc => ∃ us : List V, Hc D1 = some (.lst us) ∧ DTs Hc us ((Es.take i).map fun e => wD e.1) ∧ Same Hm Hc) ⟨[], upd_same, .nil, sD1⟩ (fun i Hc _ z => by
      obtain ⟨_, _, _, scc⟩ := z
      exact SqL.of (scc _ _ Sm.found)) ?_ ?_
    · rintro i rv Hc hv ⟨us, eD1, dD1, scc⟩
      obtain ⟨e, he, dv⟩ := (Sm.dfound.to (.of scc)).map' hv
      obtain ⟨t, a, b, c, rfl, ht, da, db, dc⟩ := dt_ent dv
      have tsU : TSame Hc (upd Hc D1 (.lst (us ++ [a]))) := .updL eD1
      refine ⟨rfl, yes_of ?_⟩
      refine ⟨_, rfl, t, _, _, _, rfl, rfl, SqT.of ht, at0, us, eD1, sz1l _ (by
        rw [dD1.len, List.length_map, List.length_take]
        omega), us ++ [a], upd_same, ?_, fun b' o eb => ?_⟩
      · rw [List.take_add_one, he]
        exact (dD1.to tsU).snoc (da.to tsU)
      · rw [upd_ne (ne_of_none eb hD1)]
        exact scc _ _ eb
    rintro Hn ⟨us, eD1, dD1, sn⟩
    rw [lfs, List.take_length] at dD1
    refine ⟨D1, us, rfl, .inl ⟨SqL.of eD1, fun X1 hX1 => ?_⟩⟩
    have sX1 := Same.new (.tup us) (Same.refl Hn) hX1
    have snx := sn.trans sX1
    have ew : W.map wD = Es.map fun e => wD e.1 := by rw [← mapW, List.map_map]; rfl
    have sh3 : SeqAt.shaped (.tuple (W.map wD)) = true := by
      refine Lay.shaped (k := 2) (Lay.tup fun d hd => ?_) (by decide)
      obtain ⟨w0, _, rfl⟩ := List.mem_map.mp hd
      exact lay_w _
    rw [← ew] at dD1
    refine ⟨.tuple (W.map wD), .tuple (W.map wD), DT.dp _ (.tup (snx _ _ hwt') (dw'.to (.of snx))), DT.dp _ (.tup upd_same (dD1.to (.of sX1))), sh3, sh3, ?_⟩
    rw [SeqAt.eqv_refl _ (SeqAt.canLay_of_shaped sh3)]
    exact k _
end
end K26
set_option maxHeartbeats 0
namespace K26
open PySem PySem.Spec PyProof.Rows L2 Z
section
variable {P : Program} {w : World} {K : PySem.W.Frag} {mg : Str → Option Value} {base : Heap}
theorem scTooMany__init__ : FnScope ["self", "what", "many", "limit"] ["self", "what", "many", "limit"] (defScope iTooMany__init__) := ⟨rfl, rfl, rfl, by decide +kernel, rfl, by decide +kernel, by decide +kernel⟩
theorem mxTooMany {fd : FuncData} (T : EC K mg "TooMany" ["what", "many", "limit"]) (F : FnM K "TooMany" "__init__" "TooMany.__init__" iTooMany__init__ fd) : Mx P w K mg base "TooMany" ["self", "what", "many", "limit"] ["what", "many", "limit"] := by
  refine ⟨T, fd, ?_, F.bindsN fun _ _ _ _ _ _ us hl => match us, hl with | [_, _, _, _], _ => rfl⟩
  refine F.ok scTooMany__init__ (fun vs H Q E h => ?_) (fun cdv A outer s H vs Q E hr h => ⟨_, PSs.nox (pss_cons (ps_ost (pv 0) (pv 1)) (pss_cons (ps_ost (pv 0) (pv 2)) (pss_one (ps_ost (pv 0) (pv 3))))), rd_err3 T h⟩)
  obtain ⟨a, ws, rfl, e, _⟩ := h
  rw [List.length_cons, e]
  rfl
theorem scBadName__init__ : FnScope ["self", "name"] ["self", "name"] (defScope iBadName__init__) := ⟨rfl, rfl, rfl, by decide +kernel, rfl, by decide +kernel, by decide +kernel⟩
theorem mxBadName {fd : FuncData} (T : EC K mg "BadName" ["name"]) (F : FnM K "BadName" "__init__" "BadName.__init__" iBadName__init__ fd) : Mx P w K mg base "BadName" ["self", "name"] ["name"] := by
  refine ⟨T, fd, ?_, F.bindsN fun _ _ _ _ _ _ us hl => match us, hl with | [_, _], _ => rfl⟩
  refine F.ok scBadName__init__ (fun vs H Q E h => ?_) (fun cdv A outer s H vs Q E hr h => ⟨_, PSs.nox (pss_one (ps_ost (pv 0) (pv 1))), rd_err1 T h⟩)
  obtain ⟨a, ws, rfl, e, _⟩ := h
  rw [List.length_cons, e]
  rfl
theorem scBadSize__init__ : FnScope ["self", "n"] ["self", "n"] (defScope iBadSize__init__) := ⟨rfl, rfl, rfl, by decide +kernel, rfl, by decide +kernel, by decide +kernel⟩
theorem mxBadSize {fd : FuncData} (T : EC K mg "BadSize" ["n"]) (F : FnM K "BadSize" "__init__" "BadSize.__init__" iBadSize__init__ fd) : Mx P w K mg base "BadSize" ["self", "n"] ["n"] := by
  refine ⟨T, fd, ?_, F.bindsN fun _ _ _ _ _ _ us hl => match us, hl with | [_, _], _ => rfl⟩
  refine F.ok scBadSize__init__ (fun vs H Q E h => ?_) (fun cdv A outer s H vs Q E hr h => ⟨_, PSs.nox (pss_one (ps_ost (pv 0) (pv 1))), rd_err1 T h⟩)
  obtain ⟨a, ws, rfl, e, _⟩ := h
  rw [List.length_cons, e]
  rfl
theorem scTooLong__init__ : FnScope ["self", "many"] ["self", "many"] (defScope iTooLong__init__) := ⟨rfl, rfl, rfl, by decide +kernel, rfl, by decide +kernel, by decide +kernel⟩
theorem mxTooLong {fd : FuncData} (T : EC K mg "TooLong" ["many"]) (F : FnM K "TooLong" "__init__" "TooLong.__init__" iTooLong__init__ fd) : Mx P w K mg base "TooLong" ["self", "many"] ["many"] := by
  refine ⟨T, fd, ?_, F.bindsN fun _ _ _ _ _ _ us hl => match us, hl with | [_, _], _ => rfl⟩
  refine F.ok scTooLong__init__ (fun vs H Q E h => ?_) (fun cdv A outer s H vs Q E hr h => ⟨_, PSs.nox (pss_one (ps_ost (pv 0) (pv 1))), rd_err1 T h⟩)
  obtain ⟨a, ws, rfl, e, _⟩ := h
  rw [List.length_cons, e]
  rfl
theorem scNoWork__init__ : FnScope ["self", "work"] ["self", "work"] (defScope iNoWork__init__) := ⟨rfl, rfl, rfl, by decide +kernel, rfl, by decide +kernel, by decide +kernel⟩
theorem mxNoWork {fd : FuncData} (T : EC K mg "NoWork" ["work"]) (F : FnM K "NoWork" "__init__" "NoWork.__init__" iNoWork__init__ fd) : Mx P w K mg base "NoWork" ["self", "work"] ["work"] := by
  refine ⟨T, fd, ?_, F.bindsN fun _ _ _ _ _ _ us hl => match us, hl with | [_, _], _ => rfl⟩
  refine F.ok scNoWork__init__ (fun vs H Q E h => ?_) (fun cdv A outer s H vs Q E hr h => ⟨_, PSs.nox (pss_one (ps_ost (pv 0) (pv 1))), rd_err1 T h⟩)
  obtain ⟨a, ws, rfl, e, _⟩ := h
  rw [List.length_cons, e]
  rfl
end
theorem inx_of {K : PySem.W.Frag} {C : Addr} (h : insB K C = true) : Inx K C := by
  obtain ⟨h1, h⟩ := He.ba h
  obtain ⟨h2, h⟩ := He.ba h
  obtain ⟨h3, h4⟩ := He.ba h
  exact ⟨He.eqO_ok h1, He.eqO_ok h2, of_decide_eq_true h3, of_decide_eq_true h4⟩
theorem kw_of {K : PySem.W.Frag} {x : Str} (z : (match K.lookup (kwAt x K) with | some ⟨.type c, _, .seq its _, _⟩ => decide (c = "tuple") && decide (its.size = 0) | _ => false) = true) : ∀ H : Hp, SqT K H (kwAt x K) [] := by
  intro H
  cases e : K.lookup (kwAt x K) with
  | none =>
    rw [e] at z
    cases z
  | some ob =>
    rw [e] at z
    obtain ⟨oc, od, dt, osl⟩ := ob
    cases oc with
    | type c =>
      cases dt with
      | seq its n =>
        obtain ⟨z1, z2⟩ := He.ba z
        have z1 : c = "tuple" := of_decide_eq_true z1
        have z2 : its.size = 0 := of_decide_eq_true z2
        subst z1
        have z3 : its = #[] := Array.eq_empty_of_size_eq_zero z2
        subst z3
        exact .inr ⟨_, _, _, e, rfl, rfl, Nat.zero_le _, .nil⟩
      | _ => cases z
    | _ => cases z
theorem fnIn_of {K : PySem.W.Frag} {x q : Str} {a b e d l f fd} (F : FunD K x q a b e d l f fd) : PySem.W.fnIn K f = true := by
  obtain ⟨oc, od, dV, kV, doc, pm, an, cdv, ct, osl, rfl, lk, _⟩ := F.ex
  unfold PySem.W.fnIn
  rw [lk]
theorem facts {P : Program} {w : World} {K : PySem.W.Frag} {h : Heap} {mg : Str → Option Value} {f : Addr} (X : K.In h) (G : h.Ns mainGlobals mg) (hfa : mg ("law" : Str) = some (.ref f)) (c : SaysX fa fn K) :
    ∃ fd : FuncData, (∀ (s : Shared) (v : Value), BindsTo s fd ⟨[v], []⟩ [("_law_script", v)]) ∧ ∀ base : Heap, K.In base → base.Ns mainGlobals mg → FnOk P w K mg base CX0 12 f fd ["_law_script"] (spLaw K) := by
  have gl : ∀ x ∈ glos, mg x = some (.ref (He.ga K x)) := fun x hx => He.glo_ok X G (List.all_eq_true.mp (c.fact 0) x hx)
  have fr : ∀ x ∈ frees, mg x = none := fun x hx => He.free_ok X G (List.all_eq_true.mp (c.fact 1) x hx)
  have ow : ∀ x ∈ owns, Cls K (He.ga K x) ∧ Mk K (He.ga K x) (He.ma K (He.ga K x) "__init__") ∧ Inx K (He.ga K x) := fun x hx => by
    obtain ⟨h1, z⟩ := He.ba (List.all_eq_true.mp (c.fact 2) x hx)
    obtain ⟨h2, h3⟩ := He.ba z
    exact ⟨He.cls_ok h1, He.mkr_ok h2, inx_of h3⟩
  have na : ∀ q ∈ atts, NoAttr K (He.ga K q.1) q.2 := fun q hq => He.noat_ok (List.all_eq_true.mp (c.fact 3) q hq)
  have me : ∀ q ∈ mets, Meth K (He.ga K q.1) q.2 (He.ma K (He.ga K q.1) q.2) := fun q hq => He.meth_ok (List.all_eq_true.mp (c.fact 4) q hq)
  have op : ∀ q ∈ oprs, OpI K (He.ga K q.1) q.2 := fun q hq => opiB_ok (List.all_eq_true.mp (c.fact 5) q hq)
  have kt := c.fact 7
  unfold kits at kt
  simp only [Bool.and_eq_true, decide_eq_true_eq] at kt
  obtain ⟨⟨⟨⟨⟨⟨⟨⟨⟨_, kSi⟩, kSS⟩, kSP⟩, kPP⟩, kPS⟩, kiP⟩, kiS⟩, kii0⟩, kib0⟩ := kt
  have gcd : mg "gcd" = some (.builtin "math.gcd") := PySem.W.mg_of X G (He.eqO_ok (c.fact 8))
  have xm : ∀ q ∈ ([("BadSize", "BadSize", true), ("TooLong", "TooLong", true), ("TooLong", "BadSize", false), ("NoWork", "NoWork", true), ("BadNumber", "NoWork", false), ("BadNumber", "BadNumber", true)] : List (Str × Str × Bool)), PySem.W.exmOne K (.ref (He.ga K q.1)) (.ref (He.ga K q.2.1)) = some q.2.2 := fun q hq => of_decide_eq_true (List.all_eq_true.mp (c.fact 9) q hq)
  have EE : ∀ q ∈ excs, EC K mg q.1 q.2 := fun q hq => by
    obtain ⟨h1, z⟩ := He.ba (List.all_eq_true.mp (c.fact 6) q hq)
    obtain ⟨h2, z⟩ := He.ba z
    obtain ⟨h3, z⟩ := He.ba z
    obtain ⟨h4, h5⟩ := He.ba z
    exact { gC := gl q.1 ((show ∀ q ∈ excs, q.1 ∈ glos by decide +kernel) q hq), ox := oex_of h2 (exkB_ok h1), ex := exkB_ok h1, iC := He.eqO_ok h3, tI := of_decide_eq_true h4, na := fun x hx => He.eqO_ok (List.all_eq_true.mp h5 x hx) }
  have EB : EC K mg "BadNumber" ["what", "number"] := EE (("BadNumber", ["what", "number"]) : Str × List Str) (by decide +kernel)
  have ET : EC K mg "TooMany" ["what", "many", "limit"] := EE (("TooMany", ["what", "many", "limit"]) : Str × List Str) (by decide +kernel)
  have EN : EC K mg "BadName" ["name"] := EE (("BadName", ["name"]) : Str × List Str) (by decide +kernel)
  have EZ : EC K mg "BadSize" ["n"] := EE (("BadSize", ["n"]) : Str × List Str) (by decide +kernel)
  have EL : EC K mg "TooLong" ["many"] := EE (("TooLong", ["many"]) : Str × List Str) (by decide +kernel)
  have EW : EC K mg "NoWork" ["work"] := EE (("NoWork", ["work"]) : Str × List Str) (by decide +kernel)
  have con0 : ∀ q ∈ ([("TOP_PART", 12), ("TOP_ONE", 999), ("TOP_RANGE_PART", 3), ("TOP_DIVISOR", 3), ("TOP_STEP", 16), ("MOST_LOOPS", 6), ("MOST_STATEMENTS", 16), ("MOST_READS", 3), ("MOST_CONDITIONS", 3), ("TOP_MODULUS", 4), ("MOST_TURNS", 20000), ("MOST_DEPTH", 4), ("TOP_SIZE", 1000000000000000000000000000000)] : List (Str × Int)), ∃ t, mg q.1 = some (.int q.2 t) := fun q hq => by
    have z := List.all_eq_true.mp (c.fact 10) q hq
    cases e : PySem.W.nsIn K mainGlobals q.1 with
    | none =>
      rw [e] at z
      cases z
    | some o =>
      rw [e] at z
      cases o with
      | none => cases z
      | some v =>
        cases v with
        | int i t =>
          have e2 : i = q.2 := of_decide_eq_true z
          subst e2
          exact ⟨t, PySem.W.mg_of X G e⟩
        | _ => cases z
  have con : ∀ q ∈ ([("TOP_PART", 12), ("TOP_ONE", 999), ("TOP_RANGE_PART", 3), ("TOP_DIVISOR", 3), ("TOP_STEP", 16), ("MOST_LOOPS", 6), ("MOST_STATEMENTS", 16), ("MOST_READS", 3), ("MOST_CONDITIONS", 3)] : List (Str × Int)), ∃ t, mg q.1 = some (.int q.2 t) := fun q hq => con0 q ((show ∀ q ∈ ([("TOP_PART", 12), ("TOP_ONE", 999), ("TOP_RANGE_PART", 3), ("TOP_DIVISOR", 3), ("TOP_STEP", 16), ("MOST_LOOPS", 6), ("MOST_STATEMENTS", 16), ("MOST_READS", 3), ("MOST_CONDITIONS", 3)] : List (Str × Int)), q ∈ ([("TOP_PART", 12), ("TOP_ONE", 999), ("TOP_RANGE_PART", 3), ("TOP_DIVISOR", 3), ("TOP_STEP", 16), ("MOST_LOOPS", 6), ("MOST_STATEMENTS", 16), ("MOST_READS", 3), ("MOST_CONDITIONS", 3), ("TOP_MODULUS", 4), ("MOST_TURNS", 20000), ("MOST_DEPTH", 4), ("TOP_SIZE", 1000000000000000000000000000000)] : List (Str × Int)) by decide +kernel) q hq)
  obtain ⟨kw1, kw2⟩ := He.ba (c.fact 11)
  have gLe : ∃ t, mg "LETTERS" = some (.str lets t) := by
    have z := c.fact 12
    cases e : PySem.W.nsIn K mainGlobals "LETTERS" with
    | none =>
      rw [e] at z
      cases z
    | some o =>
      rw [e] at z
      cases o with
      | none => cases z
      | some v =>
        cases v with
        | str x t =>
          have e2 : x = lets := of_decide_eq_true z
          subst e2
          exact ⟨t, PySem.W.mg_of X G e⟩
        | _ => cases z
  have kwz : ∀ x ∈ (["reads", "conditions"] : List Str), ∀ H : Hp, SqT K H (kwAt x K) [] := fun x hx => kw_of (List.all_eq_true.mp (c.fact 13) x hx)
  have T : LwTx K mg := {
    gS := gl "Straight" (by decide +kernel), clS := (ow "Straight" (by decide +kernel)).1, mkS := (ow "Straight" (by decide +kernel)).2.1, ixS := (ow "Straight" (by decide +kernel)).2.2
    nI := na ("Straight", "i") (by decide +kernel), nN := na ("Straight", "n") (by decide +kernel), nO := na ("Straight", "one") (by decide +kernel)
    kSi := kSi, kSS := kSS, kiS := kiS
    isi := fr _ (by decide +kernel), int := fr _ (by decide +kernel), bool := fr _ (by decide +kernel)
    gA := gl "AtLeast" (by decide +kernel), clA := (ow "AtLeast" (by decide +kernel)).1, mkA := (ow "AtLeast" (by decide +kernel)).2.1
    nAS := na ("AtLeast", "straight") (by decide +kernel)
    gcd := gcd
    gR := gl "Rest" (by decide +kernel), clQ := (ow "Rest" (by decide +kernel)).1, mkR := (ow "Rest" (by decide +kernel)).2.1
    nRS := na ("Rest", "straight") (by decide +kernel), nRM := na ("Rest", "modulus") (by decide +kernel), nRR := na ("Rest", "rest") (by decide +kernel)
    topM := con0 ("TOP_MODULUS", 4) (by simp)
    plc := { gS := gl "Straight" (by decide +kernel), clS := (ow "Straight" (by decide +kernel)).1, mkS := (ow "Straight" (by decide +kernel)).2.1, ixS := (ow "Straight" (by decide +kernel)).2.2
             nI := na ("Straight", "i") (by decide +kernel), nN := na ("Straight", "n") (by decide +kernel), nO := na ("Straight", "one") (by decide +kernel)
             kSi := kSi, kSS := kSS, kiS := kiS
             isi := fr _ (by decide +kernel), int := fr _ (by decide +kernel), bool := fr _ (by decide +kernel)
             gP := gl "Place" (by decide +kernel), clP := (ow "Place" (by decide +kernel)).1, mkP := (ow "Place" (by decide +kernel)).2.1, ixP := (ow "Place" (by decide +kernel)).2.2
             nS := na ("Place", "straight") (by decide +kernel), nD := na ("Place", "divisor") (by decide +kernel)
             gcd := gcd, kPP := kPP, kPS := kPS, kSP := kSP, kiP := kiP }
    clR := (ow "Read" (by decide +kernel)).1, nRA := na ("Read", "array") (by decide +kernel), nRP := na ("Read", "place") (by decide +kernel), nRF := na ("Read", "factor") (by decide +kernel)
    clM := (ow "Statement" (by decide +kernel)).1, nMA := na ("Statement", "array") (by decide +kernel), nMC := na ("Statement", "cell") (by decide +kernel), nMK := na ("Statement", "constant") (by decide +kernel), nMR := na ("Statement", "reads") (by decide +kernel), nMG := na ("Statement", "conditions") (by decide +kernel)
    clL := (ow "Loop" (by decide +kernel)).1, nLo := na ("Loop", "low") (by decide +kernel), nHi := na ("Loop", "high") (by decide +kernel), nSt := na ("Loop", "statements") (by decide +kernel), nSp := na ("Loop", "step") (by decide +kernel), nDn := na ("Loop", "down") (by decide +kernel)
    clP := (ow "Program" (by decide +kernel)).1, nPL := na ("Program", "loops") (by decide +kernel), nPA := na ("Program", "arrays") (by decide +kernel), nPK := na ("Program", "known") (by decide +kernel)
    con := con
    gKW := He.glo_ok X G kw1
    tKW := fun H => (He.tupB_ok kw2 H)
    gLe := gLe
    len := fr _ (by decide +kernel), tuple := fr _ (by decide +kernel), all := fr _ (by decide +kernel), str := fr _ (by decide +kernel), set := fr _ (by decide +kernel), sorted := fr _ (by decide +kernel)
    list := fr _ (by decide +kernel), range := fr _ (by decide +kernel), max := fr _ (by decide +kernel), min := fr _ (by decide +kernel), sum := fr _ (by decide +kernel), enumerate := fr _ (by decide +kernel) }
  have G2 : LgTx K := { cl := (ow "Log" (by decide +kernel)).1, nW := na ("Log", "works") (by decide +kernel), nC := na ("Log", "writes") (by decide +kernel), nT := na ("Log", "takes") (by decide +kernel), nN := na ("Log", "numbers") (by decide +kernel), nR := na ("Log", "writers") (by decide +kernel) }
  have R : RErTx K mg := {
    EZ := EZ, EL := EL, EW := EW, EB := EB
    xZZ := xm ("BadSize", "BadSize", true) (by decide +kernel), xLL := xm ("TooLong", "TooLong", true) (by decide +kernel), xLZ := xm ("TooLong", "BadSize", false) (by decide +kernel)
    xWW := xm ("NoWork", "NoWork", true) (by decide +kernel), xBW := xm ("BadNumber", "NoWork", false) (by decide +kernel), xBB := xm ("BadNumber", "BadNumber", true) (by decide +kernel) }
  obtain ⟨fd_is_integer, F_is_integer⟩ := c.def_ 1 (d := d_is_integer) rfl
  obtain ⟨fd_is_integer_from, F_is_integer_from⟩ := c.def_ 2 (d := d_is_integer_from) rfl
  obtain ⟨fd_is_size, F_is_size⟩ := c.def_ 3 (d := d_is_size) rfl
  obtain ⟨fd_is_array_name, F_is_array_name⟩ := c.def_ 4 (d := d_is_array_name) rfl
  obtain ⟨fd_straight_like, F_straight_like⟩ := c.def_ 6 (d := d_straight_like) rfl
  obtain ⟨fd_place_like, F_place_like⟩ := c.def_ 7 (d := d_place_like) rfl
  obtain ⟨fd_value_of, F_value_of⟩ := c.def_ 8 (d := d_value_of) rfl
  obtain ⟨fd_turns_from, F_turns_from⟩ := c.def_ 10 (d := d_turns_from) rfl
  obtain ⟨fd_arrays_in, F_arrays_in⟩ := c.def_ 11 (d := d_arrays_in) rfl
  obtain ⟨fd_check_many, F_check_many⟩ := c.def_ 12 (d := d_check_many) rfl
  obtain ⟨fd_check_name, F_check_name⟩ := c.def_ 13 (d := d_check_name) rfl
  obtain ⟨fd_check_number, F_check_number⟩ := c.def_ 14 (d := d_check_number) rfl
  obtain ⟨fd_check_sum, F_check_sum⟩ := c.def_ 15 (d := d_check_sum) rfl
  obtain ⟨fd_check_place, F_check_place⟩ := c.def_ 16 (d := d_check_place) rfl
  obtain ⟨fd_check_range_place, F_check_range_place⟩ := c.def_ 17 (d := d_check_range_place) rfl
  obtain ⟨fd_check_run, F_check_run⟩ := c.def_ 18 (d := d_check_run) rfl
  obtain ⟨fd_works_of, F_works_of⟩ := c.def_ 19 (d := d_works_of) rfl
  obtain ⟨fd_statement_of, F_statement_of⟩ := c.def_ 20 (d := d_statement_of) rfl
  obtain ⟨fd_log_program, F_log_program⟩ := c.def_ 21 (d := d_log_program) rfl
  obtain ⟨fd__law_pen, F__law_pen⟩ := c.def_ 22 (d := d_law_pen) rfl
  obtain ⟨fd__law_draw, F__law_draw⟩ := c.def_ 23 (d := d_law_draw) rfl
  obtain ⟨fd__law_pick, F__law_pick⟩ := c.def_ 24 (d := d_law_pick) rfl
  obtain ⟨fd__law_big, F__law_big⟩ := c.def_ 25 (d := d_law_big) rfl
  obtain ⟨fd__law_between, F__law_between⟩ := c.def_ 26 (d := d_law_between) rfl
  obtain ⟨fd__law_name, F__law_name⟩ := c.def_ 27 (d := d_law_name) rfl
  obtain ⟨fd__law_names, F__law_names⟩ := c.def_ 28 (d := d_law_names) rfl
  obtain ⟨fd__law_value, F__law_value⟩ := c.def_ 29 (d := d_law_value) rfl
  obtain ⟨fd__law_guard_holds, F__law_guard_holds⟩ := c.def_ 30 (d := d_law_guard_holds) rfl
  obtain ⟨fd__law_small_guard, F__law_small_guard⟩ := c.def_ 31 (d := d_law_small_guard) rfl
  obtain ⟨fd__law_small_statement, F__law_small_statement⟩ := c.def_ 32 (d := d_law_small_statement) rfl
  obtain ⟨fd__law_small_loop, F__law_small_loop⟩ := c.def_ 33 (d := d_law_small_loop) rfl
  obtain ⟨fd__law_small_rows, F__law_small_rows⟩ := c.def_ 34 (d := d_law_small_rows) rfl
  obtain ⟨fd__law_counters, F__law_counters⟩ := c.def_ 35 (d := d_law_counters) rfl
  obtain ⟨fd__law_works, F__law_works⟩ := c.def_ 36 (d := d_law_works) rfl
  obtain ⟨fd__law_sum, F__law_sum⟩ := c.def_ 37 (d := d_law_sum) rfl
  obtain ⟨fd__law_made_guard, F__law_made_guard⟩ := c.def_ 38 (d := d_law_made_guard) rfl
  obtain ⟨fd__law_made_statement, F__law_made_statement⟩ := c.def_ 39 (d := d_law_made_statement) rfl
  obtain ⟨fd__law_made_loop, F__law_made_loop⟩ := c.def_ 40 (d := d_law_made_loop) rfl
  obtain ⟨fd__law_made, F__law_made⟩ := c.def_ 41 (d := d_law_made) rfl
  obtain ⟨fd__law_log, F__law_log⟩ := c.def_ 42 (d := d_law_log) rfl
  obtain ⟨fd__law_told, F__law_told⟩ := c.def_ 43 (d := d_law_told) rfl
  obtain ⟨fd__law_term_told, F__law_term_told⟩ := c.def_ 44 (d := d_law_term_told) rfl
  obtain ⟨fd__law_term, F__law_term⟩ := c.def_ 45 (d := d_law_term) rfl
  obtain ⟨fd__law_turns_far, F__law_turns_far⟩ := c.def_ 46 (d := d_law_turns_far) rfl
  obtain ⟨fd__law_log_right, F__law_log_right⟩ := c.def_ 47 (d := d_law_log_right) rfl
  obtain ⟨fd_law, F_law⟩ := c.def_ 48 (d := d_law) rfl
  obtain ⟨fdBadName__init__, FBadName__init__⟩ := c.def_ 49 (d := dBadName__init__) rfl
  obtain ⟨fdBadNumber__init__, FBadNumber__init__⟩ := c.def_ 50 (d := dBadNumber__init__) rfl
  obtain ⟨fdBadSize__init__, FBadSize__init__⟩ := c.def_ 51 (d := dBadSize__init__) rfl
  obtain ⟨fdTooMany__init__, FTooMany__init__⟩ := c.def_ 52 (d := dTooMany__init__) rfl
  obtain ⟨fdTooLong__init__, FTooLong__init__⟩ := c.def_ 53 (d := dTooLong__init__) rfl
  obtain ⟨fdNoWork__init__, FNoWork__init__⟩ := c.def_ 54 (d := dNoWork__init__) rfl
  obtain ⟨fdStraight__init__, FStraight__init__⟩ := c.def_ 55 (d := dStraight__init__) rfl
  obtain ⟨fdStraight__call__, FStraight__call__⟩ := c.def_ 56 (d := dStraight__call__) rfl
  obtain ⟨fdPlace__init__, FPlace__init__⟩ := c.def_ 57 (d := dPlace__init__) rfl
  obtain ⟨fdPlace__call__, FPlace__call__⟩ := c.def_ 58 (d := dPlace__call__) rfl
  obtain ⟨fdAtLeast__init__, FAtLeast__init__⟩ := c.def_ 59 (d := dAtLeast__init__) rfl
  obtain ⟨fdAtLeastholds, FAtLeastholds⟩ := c.def_ 60 (d := dAtLeastholds) rfl
  obtain ⟨fdRest__init__, FRest__init__⟩ := c.def_ 61 (d := dRest__init__) rfl
  obtain ⟨fdRestholds, FRestholds⟩ := c.def_ 62 (d := dRestholds) rfl
  obtain ⟨fdRead__init__, FRead__init__⟩ := c.def_ 63 (d := dRead__init__) rfl
  obtain ⟨fdStatement__init__, FStatement__init__⟩ := c.def_ 64 (d := dStatement__init__) rfl
  obtain ⟨fdStatementis_done, FStatementis_done⟩ := c.def_ 65 (d := dStatementis_done) rfl
  obtain ⟨fdLoop__init__, FLoop__init__⟩ := c.def_ 66 (d := dLoop__init__) rfl
  obtain ⟨fdLoopmany_turns, FLoopmany_turns⟩ := c.def_ 67 (d := dLoopmany_turns) rfl
  obtain ⟨fdLoopcounter_of, FLoopcounter_of⟩ := c.def_ 68 (d := dLoopcounter_of) rfl
  obtain ⟨fdLoopleast_counter, FLoopleast_counter⟩ := c.def_ 69 (d := dLoopleast_counter) rfl
  obtain ⟨fdProgram__init__, FProgram__init__⟩ := c.def_ 70 (d := dProgram__init__) rfl
  obtain ⟨fdLog__init__, FLog__init__⟩ := c.def_ 71 (d := dLog__init__) rfl
  obtain ⟨fdLoglast_writer, FLoglast_writer⟩ := c.def_ 72 (d := dLoglast_writer) rfl
  obtain ⟨fdLogterm_of, FLogterm_of⟩ := c.def_ 73 (d := dLogterm_of) rfl
  obtain ⟨fdLogterm_below, FLogterm_below⟩ := c.def_ 74 (d := dLogterm_below) rfl
  have e := hfa.symm.trans (gl "law" (by decide +kernel))
  cases e
  refine ⟨fd_law, fun s v => FunD.bindsA (ps := ["_law_script"]) F_law (fun _ _ _ _ _ _ us hl => match us, hl with | [_], _ => rfl) s [v] rfl, fun base _ _ => ?_⟩
  have D_is_integer : Dn P w K mg base 1 "is_integer" ["value"] (spIsInt K) := ⟨_, _, ok_isInt F_is_integer T.toStTx, gl _ (by decide +kernel), F_is_integer.kp, FunD.bindsN (ps := ["value"]) F_is_integer fun _ _ _ _ _ _ us hl => match us, hl with | [_], _ => rfl⟩
  have D_is_integer_from : Dn P w K mg base 2 "is_integer_from" ["value", "low", "high"] spIntFrom := ⟨_, _, ok_intFrom F_is_integer_from D_is_integer, gl _ (by decide +kernel), F_is_integer_from.kp, FunD.bindsN (ps := ["value", "low", "high"]) F_is_integer_from fun _ _ _ _ _ _ us hl => match us, hl with | [_, _, _], _ => rfl⟩
  have DA_is_integer : Dn P w K mg base 1 "is_integer" ["value"] spIsIntA := ⟨_, _, ok_isIntA F_is_integer T.toStTx, gl _ (by decide +kernel), F_is_integer.kp, FunD.bindsN (ps := ["value"]) F_is_integer fun _ _ _ _ _ _ us hl => match us, hl with | [_], _ => rfl⟩
  have DA_from : Dn P w K mg base 2 "is_integer_from" ["value", "low", "high"] spIntFromA := ⟨_, _, ok_intFromA F_is_integer_from DA_is_integer, gl _ (by decide +kernel), F_is_integer_from.kp, FunD.bindsN (ps := ["value", "low", "high"]) F_is_integer_from fun _ _ _ _ _ _ us hl => match us, hl with | [_, _, _], _ => rfl⟩
  have D_is_size : Dn P w K mg base 3 "is_size" ["value"] spIsSize := ⟨_, _, ok_isSize F_is_size T (con0 ("TOP_SIZE", 1000000000000000000000000000000) (by simp)) DA_from, gl _ (by decide +kernel), F_is_size.kp, FunD.bindsN (ps := ["value"]) F_is_size fun _ _ _ _ _ _ us hl => match us, hl with | [_], _ => rfl⟩
  have M : MkS P w K mg base := mk_S T.toStTx FStraight__init__
  have D_straight_like : Dn P w K mg base 3 "straight_like" ["value"] (spLike K) := ⟨_, _, ok_like F_straight_like T.toStTx M, gl _ (by decide +kernel), F_straight_like.kp, FunD.bindsN (ps := ["value"]) F_straight_like fun _ _ _ _ _ _ us hl => match us, hl with | [_], _ => rfl⟩
  have D_value_of : Dn P w K mg base 1 "value_of" ["straight", "i", "n"] (spVal K) := ⟨_, _, ok_val F_value_of T.toStTx, gl _ (by decide +kernel), F_value_of.kp, FunD.bindsN (ps := ["straight", "i", "n"]) F_value_of fun _ _ _ _ _ _ us hl => match us, hl with | [_, _, _], _ => rfl⟩
  have MB : Mx P w K mg base "BadNumber" ["self", "what", "number"] ["what", "number"] := mxBadNumber EB FBadNumber__init__
  have MT : Mx P w K mg base "TooMany" ["self", "what", "many", "limit"] ["what", "many", "limit"] := mxTooMany ET FTooMany__init__
  have MN : Mx P w K mg base "BadName" ["self", "name"] ["name"] := mxBadName EN FBadName__init__
  have MW : Mx P w K mg base "NoWork" ["self", "work"] ["work"] := mxNoWork EW FNoWork__init__
  have RE : RunE P w K mg base := { z := mxBadSize EZ FBadSize__init__, l := mxTooLong EL FTooLong__init__ }
  have MP : MkP P w K mg base := mk_P T.plc M MB D_straight_like FPlace__init__
  have MA : MkA P w K mg base := mk_A T.toAtTx M D_straight_like FAtLeast__init__
  have MR : MkR P w K mg base := mk_R T.toAtTx M MB D_straight_like D_is_integer_from FRest__init__
  have C : PC P w K mg base := {
    call := ⟨_, ok_PCall FPlace__call__ T.plc D_value_of, FPlace__call__.bindsN fun _ _ _ _ _ _ us hl => match us, hl with | [_, _, _], _ => rfl, ⟨(me ("Place", "__call__") (by decide +kernel)).at_, (me ("Place", "__call__") (by decide +kernel)).fn, fnIn_of FPlace__call__⟩⟩
    calS := ⟨_, ok_SCall FStraight__call__ D_value_of, FStraight__call__.bindsN fun _ _ _ _ _ _ us hl => match us, hl with | [_, _, _], _ => rfl, ⟨(me ("Straight", "__call__") (by decide +kernel)).at_, (me ("Straight", "__call__") (by decide +kernel)).fn, fnIn_of FStraight__call__⟩⟩ }
  have D_place_like : Dn P w K mg base 6 "place_like" ["value"] (spPLike K) := ⟨_, _, ok_pLike F_place_like T.toPrTx MP, gl _ (by decide +kernel), F_place_like.kp, FunD.bindsN (ps := ["value"]) F_place_like fun _ _ _ _ _ _ us hl => match us, hl with | [_], _ => rfl⟩
  have D_is_array_name : Dn P w K mg base 1 "is_array_name" ["value"] spIsName := ⟨_, _, ok_isName F_is_array_name T.toPrTx, gl _ (by decide +kernel), F_is_array_name.kp, FunD.bindsN (ps := ["value"]) F_is_array_name fun _ _ _ _ _ _ us hl => match us, hl with | [_], _ => rfl⟩
  have D_arrays_in : Dn P w K mg base 1 "arrays_in" ["loops"] (spArr K) := ⟨_, _, ok_arr F_arrays_in T.toPrTx, gl _ (by decide +kernel), F_arrays_in.kp, FunD.bindsN (ps := ["loops"]) F_arrays_in fun _ _ _ _ _ _ us hl => match us, hl with | [_], _ => rfl⟩
  have D_check_number : Dx P w K mg base 3 "check_number" ["what", "number", "low", "high"] (spCkN K) := ⟨_, _, ok_ckN F_check_number MB, gl _ (by decide +kernel), F_check_number.kp, FunD.bindsN (ps := ["what", "number", "low", "high"]) F_check_number fun _ _ _ _ _ _ us hl => match us, hl with | [_, _, _, _], _ => rfl⟩
  have D_check_many : Dx P w K mg base 3 "check_many" ["what", "things", "most"] (spCkM K) := ⟨_, _, ok_ckM F_check_many T.toPrTx MT, gl _ (by decide +kernel), F_check_many.kp, FunD.bindsN (ps := ["what", "things", "most"]) F_check_many fun _ _ _ _ _ _ us hl => match us, hl with | [_, _, _], _ => rfl⟩
  have D_check_name : Dx P w K mg base 3 "check_name" ["array"] (spCkA K) := ⟨_, _, ok_ckA F_check_name MN D_is_array_name, gl _ (by decide +kernel), F_check_name.kp, FunD.bindsN (ps := ["array"]) F_check_name fun _ _ _ _ _ _ us hl => match us, hl with | [_], _ => rfl⟩
  have D_check_sum : Dx P w K mg base 4 "check_sum" ["straight"] (spCkS K) := ⟨_, _, ok_ckS F_check_sum T.toPrTx D_check_number, gl _ (by decide +kernel), F_check_sum.kp, FunD.bindsN (ps := ["straight"]) F_check_sum fun _ _ _ _ _ _ us hl => match us, hl with | [_], _ => rfl⟩
  have D_check_place : Dx P w K mg base 5 "check_place" ["place"] (spCkP K) := ⟨_, _, ok_ckP F_check_place T.toPrTx D_check_number D_check_sum, gl _ (by decide +kernel), F_check_place.kp, FunD.bindsN (ps := ["place"]) F_check_place fun _ _ _ _ _ _ us hl => match us, hl with | [_], _ => rfl⟩
  have D_check_range_place : Dx P w K mg base 4 "check_range_place" ["place"] (spCkR K) := ⟨_, _, ok_ckR F_check_range_place T.toPrTx D_check_number, gl _ (by decide +kernel), F_check_range_place.kp, FunD.bindsN (ps := ["place"]) F_check_range_place fun _ _ _ _ _ _ us hl => match us, hl with | [_], _ => rfl⟩
  have MRd : MkRd P w K mg base := mk_Rd FRead__init__ { mK := (ow "Read" (by decide +kernel)).2.1, gC := gl "Read" (by decide +kernel), fn := ok_RdI FRead__init__ T.toPrTx MB D_check_name D_check_number D_place_like D_check_place }
  have MSt : MkSt P w K mg base := mk_St FStatement__init__ { mK := (ow "Statement" (by decide +kernel)).2.1, gC := gl "Statement" (by decide +kernel), fn := ok_StI FStatement__init__ T.toPrTx D_check_many D_check_name D_check_number D_check_sum D_straight_like } fun H => ⟨kwz _ (by decide +kernel) H, kwz _ (by decide +kernel) H⟩
  have MLp : MkLp P w K mg base := mk_Lp FLoop__init__ { mK := (ow "Loop" (by decide +kernel)).2.1, gC := gl "Loop" (by decide +kernel), fn := ok_LpI FLoop__init__ T.toPrTx MB D_check_many D_check_number D_place_like D_check_range_place }
  have MPr : MkPr P w K mg base := ⟨_, _, { mK := (ow "Program" (by decide +kernel)).2.1, gC := gl "Program" (by decide +kernel), fn := ok_PrI FProgram__init__ T.toPrTx D_check_many D_arrays_in }, FProgram__init__.bindsN fun _ _ _ _ _ _ us hl => match us, hl with | [_, _], _ => rfl⟩
  have MLg : MkLg P w K mg base := ⟨_, _, { mK := (ow "Log" (by decide +kernel)).2.1, gC := gl "Log" (by decide +kernel), fn := ok_LgI FLog__init__ T G2 }, FLog__init__.bindsN fun _ _ _ _ _ _ us hl => match us, hl with | [_, _, _, _], _ => rfl⟩
  have D_turns_from : Dn P w K mg base 3 "turns_from" ["loop", "least", "n"] (spTurns K) := ⟨_, _, ok_turns F_turns_from T C, gl _ (by decide +kernel), F_turns_from.kp, FunD.bindsN (ps := ["loop", "least", "n"]) F_turns_from fun _ _ _ _ _ _ us hl => match us, hl with | [_, _, _], _ => rfl⟩
  have L1 : LM1 P w K mg base := ⟨_, ok_LC FLoopleast_counter T C, FLoopleast_counter.bindsN fun _ _ _ _ _ _ us hl => match us, hl with | [_, _], _ => rfl, (me ("Loop", "least_counter") (by decide +kernel))⟩
  have HCo : HC P w K mg base := { ah := ⟨_, ok_AHolds FAtLeastholds T.toPrTx D_value_of, FAtLeastholds.bindsN fun _ _ _ _ _ _ us hl => match us, hl with | [_, _, _], _ => rfl, (me ("AtLeast", "holds") (by decide +kernel))⟩, rh := ⟨_, ok_RHolds FRestholds T.toPrTx D_value_of, FRestholds.bindsN fun _ _ _ _ _ _ us hl => match us, hl with | [_, _, _], _ => rfl, (me ("Rest", "holds") (by decide +kernel))⟩ }
  have L : LM P w K mg base := {
    mt := ⟨_, ok_MT FLoopmany_turns T L1 D_turns_from, FLoopmany_turns.bindsN fun _ _ _ _ _ _ us hl => match us, hl with | [_, _], _ => rfl, (me ("Loop", "many_turns") (by decide +kernel))⟩
    co := ⟨_, ok_CO FLoopcounter_of T L1 D_turns_from D_is_integer_from, FLoopcounter_of.bindsN fun _ _ _ _ _ _ us hl => match us, hl with | [_, _, _], _ => rfl, (me ("Loop", "counter_of") (by decide +kernel))⟩
    dn := ⟨_, ok_done FStatementis_done T HCo, FStatementis_done.bindsN fun _ _ _ _ _ _ us hl => match us, hl with | [_, _, _], _ => rfl, (me ("Statement", "is_done") (by decide +kernel))⟩ }
  have D_check_run : Dx P w K mg base 5 "check_run" ["program", "n"] (spCkRun K) := ⟨_, _, ok_ckRun F_check_run T (con0 ("MOST_TURNS", 20000) (by simp)) RE L D_is_size, gl _ (by decide +kernel), F_check_run.kp, FunD.bindsN (ps := ["program", "n"]) F_check_run fun _ _ _ _ _ _ us hl => match us, hl with | [_, _], _ => rfl⟩
  have D_works_of : Dn P w K mg base 5 "works_of" ["program", "n"] (spWorksOf K) := ⟨_, _, ok_worksOf F_works_of T L, gl _ (by decide +kernel), F_works_of.kp, FunD.bindsN (ps := ["program", "n"]) F_works_of fun _ _ _ _ _ _ us hl => match us, hl with | [_, _], _ => rfl⟩
  have D_statement_of : Dn P w K mg base 1 "statement_of" ["program", "work"] (spStmOf K) := ⟨_, _, ok_stmOf F_statement_of T, gl _ (by decide +kernel), F_statement_of.kp, FunD.bindsN (ps := ["program", "work"]) F_statement_of fun _ _ _ _ _ _ us hl => match us, hl with | [_, _], _ => rfl⟩
  have D_log_program : Dx P w K mg base 6 "log_program" ["program", "n"] (spLogP K) := ⟨_, _, ok_logP F_log_program T C MLg D_check_run D_works_of D_statement_of, gl _ (by decide +kernel), F_log_program.kp, FunD.bindsN (ps := ["program", "n"]) F_log_program fun _ _ _ _ _ _ us hl => match us, hl with | [_, _], _ => rfl⟩
  have D__law_pen : Dn P w K mg base 1 "_law_pen" ["_law_script"] (spPen K) := ⟨_, _, ok_pen F__law_pen T.bt, gl _ (by decide +kernel), F__law_pen.kp, FunD.bindsN (ps := ["_law_script"]) F__law_pen fun _ _ _ _ _ _ us hl => match us, hl with | [_], _ => rfl⟩
  have D__law_draw : Dn P w K mg base 1 "_law_draw" ["_law_pen_here", "_law_many"] spDrawC := ⟨_, _, ok_drawC F__law_draw T.bt, gl _ (by decide +kernel), F__law_draw.kp, FunD.bindsN (ps := ["_law_pen_here", "_law_many"]) F__law_draw fun _ _ _ _ _ _ us hl => match us, hl with | [_, _], _ => rfl⟩
  have D__law_pick : Dn P w K mg base 2 "_law_pick" ["_law_pen_here", "_law_some"] spPick := ⟨_, _, ok_pick F__law_pick T D__law_draw, gl _ (by decide +kernel), F__law_pick.kp, FunD.bindsN (ps := ["_law_pen_here", "_law_some"]) F__law_pick fun _ _ _ _ _ _ us hl => match us, hl with | [_, _], _ => rfl⟩
  have D__law_big : Dn P w K mg base 2 "_law_big" ["_law_pen_here", "_law_many"] spBigG := ⟨_, _, ok_bigG F__law_big T D__law_draw, gl _ (by decide +kernel), F__law_big.kp, FunD.bindsN (ps := ["_law_pen_here", "_law_many"]) F__law_big fun _ _ _ _ _ _ us hl => match us, hl with | [_, _], _ => rfl⟩
  have D__law_between : Dn P w K mg base 2 "_law_between" ["_law_pen_here", "_law_least", "_law_most"] spBetween := ⟨_, _, ok_between F__law_between T D__law_draw, gl _ (by decide +kernel), F__law_between.kp, FunD.bindsN (ps := ["_law_pen_here", "_law_least", "_law_most"]) F__law_between fun _ _ _ _ _ _ us hl => match us, hl with | [_, _, _], _ => rfl⟩
  have D__law_name : Dn P w K mg base 2 "_law_name" ["_law_pen_here"] spName := ⟨_, _, ok_name F__law_name T D__law_draw, gl _ (by decide +kernel), F__law_name.kp, FunD.bindsN (ps := ["_law_pen_here"]) F__law_name fun _ _ _ _ _ _ us hl => match us, hl with | [_], _ => rfl⟩
  have D__law_names : Dn P w K mg base 3 "_law_names" ["_law_pen_here", "_law_many"] spNames := ⟨_, _, ok_names F__law_names T D__law_name, gl _ (by decide +kernel), F__law_names.kp, FunD.bindsN (ps := ["_law_pen_here", "_law_many"]) F__law_names fun _ _ _ _ _ _ us hl => match us, hl with | [_, _], _ => rfl⟩
  have D__law_value : Dn P w K mg base 1 "_law_value" ["_law_row", "_law_i", "_law_n"] spValue := ⟨_, _, ok_value F__law_value T, gl _ (by decide +kernel), F__law_value.kp, FunD.bindsN (ps := ["_law_row", "_law_i", "_law_n"]) F__law_value fun _ _ _ _ _ _ us hl => match us, hl with | [_, _, _], _ => rfl⟩
  have D__law_guard_holds : Dn P w K mg base 2 "_law_guard_holds" ["_law_guard", "_law_i", "_law_n"] spGuardH := ⟨_, _, ok_guardH F__law_guard_holds T D__law_value, gl _ (by decide +kernel), F__law_guard_holds.kp, FunD.bindsN (ps := ["_law_guard", "_law_i", "_law_n"]) F__law_guard_holds fun _ _ _ _ _ _ us hl => match us, hl with | [_, _, _], _ => rfl⟩
  have D__law_small_guard : Dn P w K mg base 2 "_law_small_guard" ["_law_pen_here"] spSGuard := ⟨_, _, ok_sguard F__law_small_guard T D__law_draw, gl _ (by decide +kernel), F__law_small_guard.kp, FunD.bindsN (ps := ["_law_pen_here"]) F__law_small_guard fun _ _ _ _ _ _ us hl => match us, hl with | [_], _ => rfl⟩
  have D__law_small_statement : Dn P w K mg base 3 "_law_small_statement" ["_law_pen_here", "_law_names_here"] spSStm := ⟨_, _, ok_sstm F__law_small_statement T D__law_draw D__law_pick D__law_between D__law_small_guard, gl _ (by decide +kernel), F__law_small_statement.kp, FunD.bindsN (ps := ["_law_pen_here", "_law_names_here"]) F__law_small_statement fun _ _ _ _ _ _ us hl => match us, hl with | [_, _], _ => rfl⟩
  have D__law_small_loop : Dn P w K mg base 4 "_law_small_loop" ["_law_pen_here", "_law_names_here", "_law_most"] spSLoop := ⟨_, _, ok_sloop F__law_small_loop T D__law_draw D__law_small_statement, gl _ (by decide +kernel), F__law_small_loop.kp, FunD.bindsN (ps := ["_law_pen_here", "_law_names_here", "_law_most"]) F__law_small_loop fun _ _ _ _ _ _ us hl => match us, hl with | [_, _, _], _ => rfl⟩
  have D__law_small_rows : Dn P w K mg base 5 "_law_small_rows" ["_law_pen_here", "_law_loops", "_law_most"] spSRows := ⟨_, _, ok_srows F__law_small_rows T D__law_draw D__law_names D__law_small_loop, gl _ (by decide +kernel), F__law_small_rows.kp, FunD.bindsN (ps := ["_law_pen_here", "_law_loops", "_law_most"]) F__law_small_rows fun _ _ _ _ _ _ us hl => match us, hl with | [_, _, _], _ => rfl⟩
  have D__law_counters : Dn P w K mg base 1 "_law_counters" ["_law_row", "_law_n"] spCounters := ⟨_, _, ok_counters F__law_counters T, gl _ (by decide +kernel), F__law_counters.kp, FunD.bindsN (ps := ["_law_row", "_law_n"]) F__law_counters fun _ _ _ _ _ _ us hl => match us, hl with | [_, _], _ => rfl⟩
  have D__law_works : Dn P w K mg base 3 "_law_works" ["_law_rows", "_law_n"] spWorks := ⟨_, _, ok_works F__law_works T D__law_counters D__law_guard_holds, gl _ (by decide +kernel), F__law_works.kp, FunD.bindsN (ps := ["_law_rows", "_law_n"]) F__law_works fun _ _ _ _ _ _ us hl => match us, hl with | [_, _], _ => rfl⟩
  have D__law_sum : Dn P w K mg base 3 "_law_sum" ["_law_row"] (spSum K) := ⟨_, _, ok_lsum F__law_sum T M, gl _ (by decide +kernel), F__law_sum.kp, FunD.bindsN (ps := ["_law_row"]) F__law_sum fun _ _ _ _ _ _ us hl => match us, hl with | [_], _ => rfl⟩
  have D__law_made_guard : Dn P w K mg base 6 "_law_made_guard" ["_law_guard"] (spMGuard K) := ⟨_, _, ok_mguard F__law_made_guard T MA MR D__law_sum, gl _ (by decide +kernel), F__law_made_guard.kp, FunD.bindsN (ps := ["_law_guard"]) F__law_made_guard fun _ _ _ _ _ _ us hl => match us, hl with | [_], _ => rfl⟩
  have D__law_made_statement : Dn P w K mg base 9 "_law_made_statement" ["_law_row"] (spMStm K) := ⟨_, _, ok_mstm F__law_made_statement T MP MRd MSt D__law_sum D__law_made_guard, gl _ (by decide +kernel), F__law_made_statement.kp, FunD.bindsN (ps := ["_law_row"]) F__law_made_statement fun _ _ _ _ _ _ us hl => match us, hl with | [_], _ => rfl⟩
  have D__law_made_loop : Dn P w K mg base 10 "_law_made_loop" ["_law_row"] (spMLoop K) := ⟨_, _, ok_mloop F__law_made_loop T M MP MLp D__law_made_statement, gl _ (by decide +kernel), F__law_made_loop.kp, FunD.bindsN (ps := ["_law_row"]) F__law_made_loop fun _ _ _ _ _ _ us hl => match us, hl with | [_], _ => rfl⟩
  have D__law_made : Dn P w K mg base 11 "_law_made" ["_law_rows"] (spMade K) := ⟨_, _, ok_made F__law_made T MPr D__law_made_loop, gl _ (by decide +kernel), F__law_made.kp, FunD.bindsN (ps := ["_law_rows"]) F__law_made fun _ _ _ _ _ _ us hl => match us, hl with | [_], _ => rfl⟩
  have D__law_log : Dn P w K mg base 4 "_law_log" ["_law_rows", "_law_n"] spLog := ⟨_, _, ok_log F__law_log T D__law_works D__law_value, gl _ (by decide +kernel), F__law_log.kp, FunD.bindsN (ps := ["_law_rows", "_law_n"]) F__law_log fun _ _ _ _ _ _ us hl => match us, hl with | [_, _], _ => rfl⟩
  have D__law_turns_far : Dn P w K mg base 1 "_law_turns_far" ["_law_row", "_law_n"] spTurnsF := ⟨_, _, ok_turnsF F__law_turns_far T, gl _ (by decide +kernel), F__law_turns_far.kp, FunD.bindsN (ps := ["_law_row", "_law_n"]) F__law_turns_far fun _ _ _ _ _ _ us hl => match us, hl with | [_, _], _ => rfl⟩
  have D__law_told : Dn P w K mg base 7 "_law_told" ["_law_program", "_law_n"] (spTold K) := ⟨_, _, ok_told F__law_told T G2 R D_log_program, gl _ (by decide +kernel), F__law_told.kp, FunD.bindsN (ps := ["_law_program", "_law_n"]) F__law_told fun _ _ _ _ _ _ us hl => match us, hl with | [_, _], _ => rfl⟩
  have bTB : L2.Binds K fdLogterm_below ["self", "work", "depth"] [] := FLogterm_below.bindsN fun _ _ _ _ _ _ us hl => match us, hl with | [_, _, _], _ => rfl
  have bTO : L2.Binds K fdLogterm_of ["self", "work", "depth"] [] := FLogterm_of.bindsN fun _ _ _ _ _ _ us hl => match us, hl with | [_, _, _], _ => rfl
  have bLW : L2.Binds K fdLoglast_writer ["self", "array", "cell"] [] := FLoglast_writer.bindsN fun _ _ _ _ _ _ us hl => match us, hl with | [_, _, _], _ => rfl
  have oTO := ok_TO (P := P) (w := w) (base := base) FLogterm_of (ok_TB FLogterm_below bTB (me ("Log", "term_below") (by decide +kernel)) T G2 5) bTB (me ("Log", "term_below") (by decide +kernel)) T G2 MW MB (con0 ("MOST_DEPTH", 4) (by simp)) D_is_integer_from
  have oLW := ok_LW (P := P) (w := w) (base := base) FLoglast_writer T G2
  have D__law_term_told : Dn P w K mg base 7 "_law_term_told" ["_law_log_here", "_law_work", "_law_depth"] (spTermT K) := ⟨_, _, ok_termT F__law_term_told T G2 R oTO bTO (me ("Log", "term_of") (by decide +kernel)), gl _ (by decide +kernel), F__law_term_told.kp, FunD.bindsN (ps := ["_law_log_here", "_law_work", "_law_depth"]) F__law_term_told fun _ _ _ _ _ _ us hl => match us, hl with | [_, _, _], _ => rfl⟩
  have bLT : L2.Binds K fd__law_term ["_law_rows", "_law_work", "_law_depth"] [] := FunD.bindsN (ps := ["_law_rows", "_law_work", "_law_depth"]) F__law_term fun _ _ _ _ _ _ us hl => match us, hl with | [_, _, _], _ => rfl
  have D__law_term : Dn P w K mg base 5 "_law_term" ["_law_rows", "_law_work", "_law_depth"] (spLT 5) := ⟨_, _, ok_lterm F__law_term (gl _ (by decide +kernel)) F__law_term.kp bLT T 5, gl _ (by decide +kernel), F__law_term.kp, bLT⟩
  have D__law_log_right : Dn P w K mg base 2 "_law_log_right" ["_law_log_here", "_law_found", "_law_lasts"] (spLogR K) := ⟨_, _, ok_logR F__law_log_right T G2 oLW bLW (me ("Log", "last_writer") (by decide +kernel)), gl _ (by decide +kernel), F__law_log_right.kp, FunD.bindsN (ps := ["_law_log_here", "_law_found", "_law_lasts"]) F__law_log_right fun _ _ _ _ _ _ us hl => match us, hl with | [_, _, _], _ => rfl⟩
  exact ok_law F_law T G2 D__law_pen D__law_draw D__law_big D__law_small_rows D__law_made D__law_log D_log_program D__law_log_right D__law_term_told D__law_term D__law_turns_far D__law_told oLW bLW (me ("Log", "last_writer") (by decide +kernel))
end K26
open PySem PySem.W PySem.Calls PyProof.Rows
theorem PySem.Challenge.cw_loopsize_k26_logs_of_plain_runs_holds : PySem.Challenge.rw_loopsize_k26_logs_of_plain_runs.Holds := by
  w_on; o_law
  refine HandSHeadRun.head_imp (r := OpenLaw.row PySem.Challenge.rw_loopsize_k26_logs_of_plain_runs) (q := view (OpenLaw.row PySem.Challenge.rw_loopsize_k26_logs_of_plain_runs).prog [0, 87]) (H := K26.hk) (ob := K26.ob) (M := 60000) (loose := K26.names) (d := HandSHeadRun.topDef (OpenLaw.row PySem.Challenge.rw_loopsize_k26_logs_of_plain_runs).prog 87) (kwd := []) K26.ob_eq
    K26.run (by kernel_rfl) (by kernel_rfl) (by kernel_rfl) (by rfl) (by first | assumption | decide +kernel) (by decide +kernel) ⟨rfl, rfl, rfl, rfl, rfl, by decide +kernel⟩ ?hw ?hc
  case hw => w_witness2
  case hc =>
    refine L2.walk_ofE (l := PySem.Challenge.rw_loopsize_k26_logs_of_plain_runs) (n := 63) (k := 12) (x := "_law_script") (CX := L2.CX0) rfl (by decide) (by kernel_rfl) ⟨rfl, by decide, by decide⟩ ?F (fun _ _ _ _ z => z)
    intro w mg fa h Y G hmg0
    obtain ⟨K, KX, c⟩ := Y
    have hmg : mg ("law" : PySem.Str) = some (.ref fa) := by
      have e : (HandSHeadRun.topDef (OpenLaw.row PySem.Challenge.rw_loopsize_k26_logs_of_plain_runs).prog 87).name = ("law" : PySem.Str) := by kernel_rfl
      rw [← e]
      exact hmg0
    obtain ⟨fd, hb, hF⟩ := K26.facts (P := (PySem.Challenge.rw_loopsize_k26_logs_of_plain_runs).prog) (w := w) KX G hmg c
    exact ⟨K, fd, K26.spLaw K, KX, hb, fun H a ns hl _ hS => ⟨a, ns, rfl, hS, hl, fun _ => rfl⟩, hF⟩
