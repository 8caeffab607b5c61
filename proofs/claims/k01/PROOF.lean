import PyProof.Rows.All
import Wide.All
import OpenK.AllK
import Wide.FinOn
import KE.KExcIs
import HandS.ForMost
import HandS.Exc
import HandS.ExcInit
import HandS.ExcOwn
import HandS.ExcValue
import HandS.ExcField
import HandS.ExcIs
import HandS.IsInst
import HandS.WordsExc
import HandS.Defaults
import HandS.HeadHook1
import HandS.HeadHook2
import HandS.Head0
import HandS.Head1
import HandS.Head2
import HandS.HeadEnd
import HandS.HeadHook4
import KE.KOpsOwn
import PyProof.ListMulRight
import PyProof.FactsAll.int_3
import PyProof.FactsAll.int_5
import HandS.Star
import HandS.Gcd
import HandS.Wide
import HandS.SlotsOwn
import PyProof.InstNe
import HandS.TryMany
import HandS.MakeKwOnly
import HandS.CallSlots
import HandS.SetFor
import HandS.Strs
import HandS.SetTxt0
import PyProof.Rows.SortShellAny
import HandS.Comp
import HandS.Iter
import HandS.Head3
import KE.GoesMore
import KE.KDictZip
import HandS.GenList
import HandS.Conv
import KE.KDictKeyed
import KE.KeyNested
import HandS.Dict
import HandS.More
import PyProof.RangeIter
import KE.KDictPairs
import PyProof.RangeFor
import PyProof.Rows.GenSrcRange
import KE.KDictWalk
import KE.KDictCopyH
import PyProof.Rows.SeqRoads
import HandS.Nested
import HandS.Lambda
import HandS.Walk
import HandS.WideBits
import HandS.TupMul
import KE.GoesEnum
import HandS.Deep
import HandS.TupAny
import HandS.Zip
import HandS.EndTab
import KE.KNest
import PySem.Challenge.RW_loopsize_k01_sets_told_by_cases
set_option Elab.async false
set_option linter.all false
set_option maxRecDepth 100000
set_option maxHeartbeats 4000000
namespace Z
open PySem PySem.Spec PyProof.Rows L2
end Z
set_option maxHeartbeats 4000000
namespace Z
open PySem PySem.Spec PyProof.Rows L2
abbrev FaK : Type := PySem.W.Frag → Bool
def obsX (fa : List FaK) (fn : List He.DefD) (K : PySem.W.Frag) : He.AlD := ((fa.all fun f => f K) && fn.all fun d => d.ok K, fn.map fun d => He.fnW K d.at_)
def SaysX (fa : List FaK) (fn : List He.DefD) (K : PySem.W.Frag) : Prop := obsX fa fn K = He.valD fn
section
variable {fa : List FaK} {fn : List He.DefD} {K : PySem.W.Frag}
theorem SaysX.fact (c : SaysX fa fn K) (i : Nat) {f : FaK} (h : fa[i]? = some f := by rfl) : f K = true := by
  have c1 := (He.ba (show ((fa.all fun f => f K) && fn.all fun d => d.ok K) = true from congrArg (fun z : He.AlD => z.1) c)).1
  exact List.all_eq_true.mp c1 f (List.mem_of_getElem? h)
theorem SaysX.def_ (c : SaysX fa fn K) (i : Nat) {d : He.DefD} (h : fn[i]? = some d := by rfl) : ∃ fd, FunD K d.name d.qual d.params d.body d.scope (d.dvs K) (d.kws K) (He.fAd K d.at_) fd := by
  have c2 := (He.ba (show ((fa.all fun f => f K) && fn.all fun d => d.ok K) = true from congrArg (fun z : He.AlD => z.1) c)).2
  have e : fn.map (fun d => He.fnW K d.at_) = fn.map He.DefD.val := congrArg (fun z : He.AlD => z.2) c
  have e2 : (fn.map fun d => He.fnW K d.at_)[i]? = (fn.map He.DefD.val)[i]? := by rw [e]
  rw [List.getElem?_map, List.getElem?_map, h] at e2
  exact He.DefD.funD (Option.some.inj e2) (List.all_eq_true.mp c2 d (List.mem_of_getElem? h))
end
def oexB (K : PySem.W.Frag) (C : Addr) : Bool := match K.lookup C with
  | some ⟨.type t, _, .cls cd, sl⟩ => decide (t = "type") && (match cd.mro, sl.toList with
    | .ref C' :: bm, [_, _, _, _, some (.builtin n), _] => decide (C' = C) && (decide (n = "ValueError.__new__") && (!cd.hasDel && (cd.hasDict && PySem.HandSPX.refsVE bm)))
    | _, _ => false)
  | _ => false
/-- all that is asked of an exception class -/
def exkB (K : PySem.W.Frag) (C : Addr) : Bool :=
  He.eqO (PySem.W.findIn K (.ref C) "__setattr__") (some (some (.builtin "object.__setattr__"))) &&
  (decide (PySem.W.subIn K (.ref C) (.type "BaseException") = some true) &&
  (decide (PySem.W.typeIn K (.ref C) = some (.type "type")) &&
  (PySem.W.keepIn K (.ref C) &&
  (He.eqO (PySem.W.findIn K (.ref C) "__getattribute__") (some (some (.builtin "BaseException.__getattribute__"))) &&
  (He.eqO (PySem.W.findIn K (.ref C) "__getattr__") (some none) &&
  (PySem.W.hasDictIn K C &&
  (He.eqO (PySem.W.findIn K (.ref C) "__class__") (some (some (.builtin "object.__class__"))) &&
  (He.eqO (PySem.W.specialIn K (.builtin "object.__class__") "__get__") (some (some (.builtin "getset_descriptor.__get__"))) &&
  (decide (PySem.W.takesIn K (.builtin "object.__class__") = some true) &&
  decide (PySem.W.mroIn K C (.type "object") = some true))))))))))
def Dn (P : Program) (w : World) (K : PySem.W.Frag) (mg : Str → Option Value) (base : Heap) (j : Nat) (x : Str) (ps : List Str) (sp : Sp) : Prop :=
  ∃ (f : Addr) (fd : FuncData), FnOk P w K mg base CX0 j f fd ps sp ∧ mg x = some (.ref f) ∧ PySem.W.keepIn K (.ref f) = true ∧ Binds K fd ps []
section
variable {X : Cx} {e : Expr} {es : List Expr} {t : TA} {p pos : Pos}
theorem pe_dn {k j : Nat} {x : Str} {ps : List Str} {sp : Sp} (D : Dn X.prog X.w X.K X.mg X.base j x ps sp) (hr : Room k X.A) (ha : PA X (e :: es) t) (hjk : j ≤ k := by decide) (hg : Gl X x := by rfl)
    (hdb : (x == ("__debug__" : Str)) = false := by decide) (he : starEach (e :: es) X.env = (false, eval e X.env) :: starEach es X.env := by rfl) (hpl : (backTo pos (starEach es X.env)).any (·.1) = false := by rfl) :
    PE X (.Call (.Name x p) (e :: es) [] pos) (tCall sp [] E0 t) := by
  obtain ⟨f, fd, G, hm, hk, hb⟩ := D
  exact pe_call G (hr.mono hjk) hg hm hk hb .nil pass0 ha hdb he hpl
end
end Z
set_option maxHeartbeats 4000000
namespace Z
open PySem PySem.Spec PyProof.Rows L2
end Z
namespace Z
theorem map3 {α β γ δ : Type} {o : Option α} {f : α → β} {g : α → γ} {h : α → δ} {a : β} {b : γ} {c : δ} (h1 : o.map f = some a) (h2 : o.map g = some b) (h3 : o.map h = some c) : o.map (fun x => (f x, g x, h x)) = some (a, b, c) := by
  cases o with
  | none => cases h1
  | some x =>
    cases h1
    cases h2
    cases h3
    rfl
open PySem PySem.Spec PyProof.Rows L2
end Z
set_option maxHeartbeats 4000000
namespace Z
open PySem PySem.Spec PyProof.Rows L2
def obsRT (n : Nat) (fa : List FaK) (fn : List He.DefD) (g : Addr → Option Obj) : He.AlD := obsX fa fn (He.frT g (List.range n))
def hookRT (n : Nat) (fa : List FaK) (fn : List He.DefD) : PySem.W.Hook where
  α := He.AlD
  obs := fun s => obsRT n fa fn s.heap.get?
  val := fun _ => He.valD fn
  says := fun _ h => ∃ K : PySem.W.Frag, K.In h ∧ SaysX fa fn K
  of := fun _ _ e => ⟨_, He.frT_in, e⟩
  keeps := fun _ _ _ ⟨K, hK, c⟩ k => ⟨K, PySem.W.Frag.In.keeps hK k, c⟩
theorem obsRT_eq {n : Nat} {fa : List FaK} {fn : List He.DefD} {g : Addr → Option Obj} {s : Shared} (h : ∀ a, g a = s.heap.get? a) : obsRT n fa fn g = (hookRT n fa fn).obs s := by
  have e : g = s.heap.get? := funext h
  rw [e] <;> rfl
theorem obs_catT {α : Type} {o : Option α} {F : α → Addr → Option Obj} {n : Nat} {fa1 fa2 : List FaK} {fn1 fn2 : List He.DefD} (h1 : o.map (fun x => obsRT n fa1 fn1 (F x)) = some (He.valD fn1)) (h2 : o.map (fun x => obsRT n fa2 fn2 (F x)) = some (He.valD fn2)) :
    o.map (fun x => obsRT n (fa1 ++ fa2) (fn1 ++ fn2) (F x)) = some (He.valD (fn1 ++ fn2)) := by
  cases o with
  | none => cases h1
  | some x =>
    have e1 : obsRT n fa1 fn1 (F x) = He.valD fn1 := Option.some.inj h1
    have e2 : obsRT n fa2 fn2 (F x) = He.valD fn2 := Option.some.inj h2
    refine congrArg some ?_
    have a1 := (Prod.mk.inj e1)
    have a2 := (Prod.mk.inj e2)
    obtain ⟨b1, c1⟩ := He.ba a1.1
    obtain ⟨b2, c2⟩ := He.ba a2.1
    refine Prod.ext ?_ ?_
    · show (((fa1 ++ fa2).all fun f => f _) && (fn1 ++ fn2).all fun d => d.ok _) = true
      rw [List.all_append, List.all_append, b1, b2, c1, c2]
      rfl
    · show (fn1 ++ fn2).map _ = (fn1 ++ fn2).map _
      rw [List.map_append, List.map_append]
      exact congr (congrArg _ a1.2) a2.2
end Z
set_option maxHeartbeats 4000000
namespace Z
open PySem PySem.Spec PyProof.Rows L2
def penK (c : Addr) (a l : Int) : List (Key × V) := [(.inr "cells", .ref c), (.inr "at", .int a), (.inr "left", .int l)]
theorem key_ne {x y : Str} (h : ¬ x = y) : ¬ ((Sum.inr x : Key) = Sum.inr y) := fun q => h (Sum.inr.inj q)
theorem ca_ : ¬ (("cells" : Str) = "at") := by decide +kernel
theorem cl_ : ¬ (("cells" : Str) = "left") := by decide +kernel
theorem al_ : ¬ (("at" : Str) = "left") := by decide +kernel
theorem penK_cells (c : Addr) (a l : Int) : valV (penK c a l) (Sum.inr "cells" : Key) = some (.ref c) := valV_pos rfl
theorem penK_at (c : Addr) (a l : Int) : valV (penK c a l) (Sum.inr "at" : Key) = some (.int a) := by
  unfold penK
  rw [valV_neg (key_ne ca_)]
  exact valV_pos rfl
theorem penK_left (c : Addr) (a l : Int) : valV (penK c a l) (Sum.inr "left" : Key) = some (.int l) := by
  unfold penK
  rw [valV_neg (key_ne cl_), valV_neg (key_ne al_)]
  exact valV_pos rfl
theorem penK_put_at (c : Addr) (a l b : Int) : putK (penK c a l) (Sum.inr "at" : Key) (.int b) = penK c b l := by
  unfold putK
  rw [valV_any, penK_at, if_pos (show (some (V.int a)).isSome = true from rfl)]
  unfold penK
  simp only [List.map_cons, List.map_nil, if_neg (key_ne ca_), if_neg (key_ne (fun q => al_ q.symm)), if_true]
theorem penK_put_left (c : Addr) (a l b : Int) : putK (penK c a l) (Sum.inr "left" : Key) (.int b) = penK c a b := by
  unfold putK
  rw [valV_any, penK_left, if_pos (show (some (V.int l)).isSome = true from rfl)]
  unfold penK
  simp only [List.map_cons, List.map_nil, if_neg (key_ne cl_), if_neg (key_ne al_), if_true]
/-- a pen stands at p; at most t numbers were drawn -/
def Pen (H : Hp) (p : Addr) (t : Nat) : Prop := ∃ (c : Addr) (ns : List Int) (a l : Int), H p = some (.dK (penK c a l)) ∧ H c = some (.lst (ns.map V.int)) ∧ ns.length ≤ 63 ∧ 0 ≤ a ∧ a ≤ (t : Int) ∧ 0 ≤ l
/-- all but p is as it was -/
def Keep (p : Addr) (H H' : Hp) : Prop := ∀ a o, a ≠ p → H a = some o → H' a = some o
theorem Keep.refl (p : Addr) (H : Hp) : Keep p H H := fun _ _ _ h => h
theorem Keep.trans {p : Addr} {H H1 H2 : Hp} (a : Keep p H H1) (b : Keep p H1 H2) : Keep p H H2 := fun c o n h => b c o n (a c o n h)
theorem Keep.of {p : Addr} {H H' : Hp} (s : Same H H') : Keep p H H' := fun a o _ h => s a o h
theorem Keep.upd {p : Addr} {H H1 : Hp} (o : HO) (k : Keep p H H1) : Keep p H (upd H1 p o) := fun a u n h => by
  rw [upd_ne n]
  exact k a u n h
theorem Keep.new {p l : Addr} {H H1 : Hp} (o : HO) (k : Keep p H H1) (hl : H1 l = none) : Keep p H (L2.upd H1 l o) := fun a u n h => by
  have q := k a u n h
  rw [upd_ne (ne_of_none q hl)]
  exact q
theorem Same.new {l : Addr} {H H1 : Hp} (o : HO) (k : Same H H1) (hl : H1 l = none) : Same H (upd H1 l o) := fun a u h => by
  have q := k a u h
  rw [upd_ne (ne_of_none q hl)]
  exact q
theorem Pen.mono {H : Hp} {p : Addr} {t t' : Nat} (h : Pen H p t) (e : t ≤ t') : Pen H p t' := by
  obtain ⟨c, ns, a, l, h1, h2, h3, h4, h5, h6⟩ := h
  exact ⟨c, ns, a, l, h1, h2, h3, h4, by omega, h6⟩
/-- a pen is not touched where all stands -/
theorem Pen.same {H H' : Hp} {p : Addr} {t : Nat} (h : Pen H p t) (s : Same H H') : Pen H' p t := by
  obtain ⟨c, ns, a, l, h1, h2, h3⟩ := h
  exact ⟨c, ns, a, l, s _ _ h1, s _ _ h2, h3⟩
/-- what is no dict is not the pen -/
theorem Pen.ne {H : Hp} {p a : Addr} {t : Nat} {o : HO} (h : Pen H p t) (e : H a = some o) (d : ∀ kvs, o ≠ .dK kvs) : a ≠ p := by
  obtain ⟨c, ns, x, l, h1, _⟩ := h
  exact ne_of e h1 (d _)
def spPen (K : PySem.W.Frag) : Sp := fun vs H Q _ => ∃ (a : Addr) (ns : List Int), vs = [.ref a] ∧ SqL K H a (ns.map V.int) ∧ ns.length ≤ 63 ∧ ∀ H' p, Same H H' → H p = none → Pen H' p 0 → Q (.ref p) H'
def spPick : Sp := fun vs H Q _ => ∃ (p l : Addr) (xs : List V) (t : Nat), vs = [.ref p, .ref l] ∧ H l = some (.lst xs) ∧ 0 < xs.length ∧ xs.length < 1000 ∧ t < 1000000000 ∧ Pen H p t ∧
  ∀ H' (i : Nat) (v : V), xs[i]? = some v → Pen H' p (t + 1) → Keep p H H' → Q v H'
theorem fmod_range {x m : Int} (h : 0 < m) : 0 ≤ x.fmod m ∧ x.fmod m < m := by
  rw [Int.fmod_eq_emod_of_nonneg _ (Int.le_of_lt h)]
  exact ⟨Int.emod_nonneg _ (by omega), Int.emod_lt_of_pos _ h⟩
theorem fdiv_nn {x m : Int} (hx : 0 ≤ x) (h : 0 < m) : 0 ≤ x.fdiv m := by
  rw [Int.fdiv_eq_ediv_of_nonneg _ (Int.le_of_lt h)]
  exact Int.ediv_nonneg hx (Int.le_of_lt h)
theorem mul_okf {x m : Int} (h : 0 < m) (hm : m ≤ 2147483648) : -(2 ^ 64) < x.fmod m ∧ x.fmod m < 2 ^ 64 := by
  have := fmod_range (x := x) h
  omega
theorem mul_okf1 {x m : Int} (h : 0 < m) (hm : m ≤ 2147483648) : -(2 ^ 64) < x.fmod m + 1 ∧ x.fmod m + 1 < 2 ^ 64 := by
  have := fmod_range (x := x) h
  omega
section
variable {H : Hp} {p c : Addr} {a l b : Int}
theorem pen_left (h : H p = some (.dK (penK c a l))) : DGet H p (.str "left") (some (.int l)) := by
  have z := DGet.k (k := (Sum.inr "left" : Key)) h
  rw [penK_left] at z
  exact z
theorem pen_at (h : H p = some (.dK (penK c a l))) : DGet H p (.str "at") (some (.int a)) := by
  have z := DGet.k (k := (Sum.inr "at" : Key)) h
  rw [penK_at] at z
  exact z
theorem pen_cells (h : H p = some (.dK (penK c a l))) : DGet H p (.str "cells") (some (.ref c)) := by
  have z := DGet.k (k := (Sum.inr "cells" : Key)) h
  rw [penK_cells] at z
  exact z
theorem pen_put_left (b : Int) (h : H p = some (.dK (penK c a l))) : DPut H p (.str "left") (.int b) (upd H p (.dK (penK c a b))) := by
  have z := DPut.k (k := (Sum.inr "left" : Key)) (v := .int b) h (show 3 < sizeLine by decide)
  rw [penK_put_left] at z
  exact z
theorem pen_put_at (b : Int) (h : H p = some (.dK (penK c a l))) : DPut H p (.str "at") (.int b) (upd H p (.dK (penK c b l))) := by
  have z := DPut.k (k := (Sum.inr "at" : Key)) (v := .int b) h (show 3 < sizeLine by decide)
  rw [penK_put_at] at z
  exact z
end
theorem lst_ne_dK {xs : List V} {kvs : List (Key × V)} : HO.lst xs ≠ .dK kvs := fun z => by cases z
/-- data: a list of ints -/
theorem dpAll_ints {K : PySem.W.Frag} {H : Hp} : ∀ ns : List Int, DpAll K H (ns.map V.int) (ns.map PyData.int)
  | [] => .nil
  | _ :: ns => .cons (.int _) (dpAll_ints ns)
theorem canLay_ints : ∀ ns : List Int, PyData.canLayAll0 (ns.map PyData.int) = true
  | [] => by simp [PyData.canLayAll0]
  | _ :: ns => by simp [PyData.canLayAll0, PyData.canLay0, canLay_ints ns]
theorem depth_ints : ∀ ns : List Int, PyData.depthAll (ns.map PyData.int) = 0
  | [] => by simp [PyData.depthAll]
  | _ :: ns => by simp [PyData.depthAll, PyData.depth, depth_ints ns]
theorem shaped_ints (ns : List Int) : SeqAt.shaped (.list (ns.map PyData.int)) = true := by
  simp [SeqAt.shaped, PyData.canLay0, canLay_ints, PyData.depth, depth_ints]
theorem shaped_nil : SeqAt.shaped (.list []) = true := shaped_ints []
theorem eqv_ints_nil (ns : List Int) : PyData.eqv (.list (ns.map PyData.int)) (.list []) = ns.isEmpty := by
  cases ns <;> simp [PyData.eqv, PyData.eqvAll]
theorem get_ints {ns : List Int} {i : Nat} (h : i < ns.length) : (ns.map V.int)[i]? = some (.int (ns[i]'h)) := by
  rw [List.getElem?_map, List.getElem?_eq_getElem h]
  rfl
end Z
set_option maxHeartbeats 4000000
namespace Z
open PySem PySem.W PySem.Calls PyProof.Rows
end Z
set_option maxHeartbeats 4000000
namespace Z
open PySem PySem.Spec PyProof.Rows L2
/-- what is asked of a class whose instances stand beside ints -/
def opiB (K : PySem.W.Frag) (C : Addr) (nm : String) : Bool :=
  PySem.W.selfFirst K C && ((match PySem.W.findIn K (.ref C) (dunderR nm) with
    | some none => true
    | some (some (.ref _)) => true
    | _ => false) && ((PySem.W.findIn K (.type "int") (dunder nm)).isSome && ((PySem.W.findIn K (.type "int") (dunderR nm)).isSome && (decide (PySem.W.subIn K (.type "int") (.ref C) = some false) && decide (PySem.W.subIn K (.ref C) (.type "int") = some false)))))
/-- a method that the class itself has, and its promise -/
def Om (P : Program) (w : World) (K : PySem.W.Frag) (mg : Str → Option Value) (base : Heap) (C : Addr) (k : Nat) (name : Str) (sp : Sp) : Prop :=
  ∃ (f : Addr) (fd : FuncData) (ps : List Str), FnOk P w K mg base CX0 k f fd ps sp ∧ PySem.W.findIn K (.ref C) name = some (some (.ref f)) ∧ PySem.W.isFn K (.ref f) = true ∧ Binds K fd ps []
theorem not_ni {v : V} {u : Value} (r : RelV v u) : u ≠ .notImplemented := by
  intro e
  subst e
  cases v with
  | non => cases r
  | bl b => cases r
  | int i => obtain ⟨_, r⟩ := r; cases r
  | str x => obtain ⟨_, r⟩ := r; cases r
  | byt b => obtain ⟨_, r⟩ := r; cases r
  | flt b => obtain ⟨_, r⟩ := r; cases r
  | ref a => cases r
  | ty n => cases r
section
variable {X : Cx}
theorem back_of {pins : List (Addr × Obj)} {σ : L2.St} {Q : VK} {u : Value} {s' : Shared} (h : EP X pins σ Q u s') : PySem.W.CmpBack (EP X pins σ Q) u s' := by
  obtain ⟨v, H', I, r, q⟩ := h
  have n := not_ni r
  cases u <;> first | exact absurd rfl n | exact ⟨v, H', I, r, q⟩
theorem om_run {pins : List (Addr × Obj)} {σ : L2.St} {H : Hp} {s : Shared} {Q : VK} {us : List Value} {vs : List V} {k : Nat} {f : Addr} {fd : FuncData} {ps : List Str} {sp : Sp} (F : FnOk X.prog X.w X.K X.mg X.base CX0 k f fd ps sp) (hb : Binds X.K fd ps []) (hr : Room k X.A)
    (I : L2.Inv X pins σ H s) (r : Vals vs us) (h : sp vs H Q E0) : wpAny (model X.prog X.w) X.A (call (.ref f) us) (PySem.W.CmpBack (EP X pins σ Q)) X.xe s := by
  have h2 : sp (vs ++ []) H Q E0 := by
    rw [List.append_nil]
    exact h
  exact wpAny_mono (run_fn F hr hb .nil pass0 I r h2) (fun u s' q => back_of q) fun _ _ z => z
theorem ins_at {pins : List (Addr × Obj)} {σ : L2.St} {H : Hp} {s : Shared} {a C dx : Addr} {fs : List (Str × V)} (I : L2.Inv X pins σ H s) (e : H a = some (.ins C dx fs)) : ∃ od, PySem.W.InstAt s.heap a (PySem.W.instObj C dx) C (some od) := by
  obtain ⟨mA, O, _⟩ := ins_get I.hok e
  obtain ⟨od, J, _⟩ := O.look
  exact ⟨od, J⟩
/-- x == y, x of the class C with its own == -/
def rEqOwn (K : PySem.W.Frag) (C : Addr) (sp : Sp) : R2 := fun x y H Q => ∃ (a dx : Addr) (fs : List (Str × V)) (t : Value), x = .ref a ∧ H a = some (.ins C dx fs) ∧ TyOf K H y t ∧ PySem.W.notFirst K C t = true ∧ sp [x, y] H Q E0
theorem ty_looks {pins : List (Addr × Obj)} {σ : L2.St} {H : Hp} {s : Shared} {y : V} {u t : Value} (I : L2.Inv X pins σ H s) (ry : RelV y u) (ty : TyOf X.K H y t) : PySem.W.Looks (model X.prog X.w) s.heap (typeOf u) t := by
  obtain ⟨P, Z, p, _⟩ := kit_of I ry (.base ty)
  exact Z.ty _ _ I.kIn p
theorem op_eqOwn {C : Addr} {k j : Nat} {sp : Sp} (O : Om X.prog X.w X.K X.mg X.base C j "__eq__" sp) (hr : Room k X.A) (hjk : j ≤ k := by decide) : OpR X (compareOp .Eq) (rEqOwn X.K C sp) := by
  intro pins s σ H x y v u Q I rx ry h
  obtain ⟨a, dx, fs, t, rfl, ha, ty, hn, q⟩ := h
  obtain ⟨f, fd, ps, F, hs, hf, hbd⟩ := O
  have rr : Vals [V.ref a, y] [v, u] := .cons rx (.cons ry .nil)
  cases (show v = Value.ref a from rx)
  obtain ⟨od, J⟩ := ins_at I ha
  obtain ⟨m, hF⟩ := I.fr
  show wpAny (model X.prog X.w) X.A (richCompare .Eq (.ref a) u) (EP X pins σ Q) X.xe s
  exact PySem.W.cmp_K (op := .Eq) hr.units0 hF I.ok.mod.kin J (ty_looks I ry ty) hn hs hf (om_run F hbd (hr.mono hjk) I rr q)
end
end Z
set_option maxHeartbeats 4000000
namespace Z
open PySem PySem.Spec PyProof.Rows L2
theorem Same.keep {H H1 H' : Hp} {a : Addr} {o : HO} (s : Same H H1) (ha : H1 a = none) (kp : Keep a (upd H1 a o) H') : Same H H' := fun b u e => by
  have q := s b u e
  have nb : b ≠ a := ne_of_none q ha
  exact kp b u nb (by rw [upd_ne nb]; exact q)
/-- behind a new instance -/
theorem Same.made {H H1 H' : Hp} {x dx C : Addr} (s : Same H H1) (nx : H1 x = none) (nd : H1 dx = none) (kp : Keep x (upd (upd H1 dx (.own x)) x (.ins C dx [])) H') : Same H H' := fun b u e => by
  have q := s b u e
  have nb : b ≠ x := ne_of_none q nx
  have nd' : b ≠ dx := ne_of_none q nd
  exact kp b u nb (by rw [upd_ne nb, upd_ne nd']; exact q)
theorem len2 (f g : Str) (v u : V) : (putF f v (putF g u [])).length < 1000 := Nat.lt_of_le_of_lt (Nat.le_trans (length_putF f v _) (Nat.add_le_add_right (length_putF g u []) 1)) (by decide)
def sf (a b c : Int) : List (Str × V) := putF "one" (.int c) (putF "n" (.int b) (putF "i" (.int a) []))
def pf (q : Addr) (d : Int) : List (Str × V) := putF "divisor" (.int d) (putF "straight" (.ref q) [])
section
variable (K : PySem.W.Frag)
abbrev CS : Addr := He.ga K "Straight"
abbrev CP : Addr := He.ga K "Place"
def StrAt (H : Hp) (p : Addr) (a b c : Int) : Prop := ∃ dx, H p = some (.ins (CS K) dx (sf a b c))
def PlcAt (H : Hp) (p : Addr) (a b c d : Int) : Prop := ∃ dx q, H p = some (.ins (CP K) dx (pf q d)) ∧ StrAt K H q a b c
/-- a sum, or an int in its place -/
def SumV (H : Hp) (v : V) (a b c : Int) : Prop := (∃ p, v = .ref p ∧ StrAt K H p a b c) ∨ (v = .int c ∧ a = 0 ∧ b = 0)
end
variable {K : PySem.W.Frag}
theorem StrAt.same {H H' : Hp} {p : Addr} {a b c : Int} (h : StrAt K H p a b c) (s : Same H H') : StrAt K H' p a b c := by
  obtain ⟨dx, h⟩ := h
  exact ⟨dx, s _ _ h⟩
theorem PlcAt.same {H H' : Hp} {p : Addr} {a b c d : Int} (h : PlcAt K H p a b c d) (s : Same H H') : PlcAt K H' p a b c d := by
  obtain ⟨dx, q, h, h2⟩ := h
  exact ⟨dx, q, s _ _ h, h2.same s⟩
theorem SumV.same {H H' : Hp} {v : V} {a b c : Int} (h : SumV K H v a b c) (s : Same H H') : SumV K H' v a b c := by
  rcases h with ⟨p, e, h⟩ | h
  · exact .inl ⟨p, e, h.same s⟩
  · exact .inr h
theorem StrAt.keep {H H' : Hp} {p q : Addr} {a b c : Int} {t : Nat} (h : StrAt K H p a b c) (hp : Pen H q t) (k : Keep q H H') : StrAt K H' p a b c := by
  obtain ⟨dx, h⟩ := h
  exact ⟨dx, k _ _ (hp.ne h fun _ z => by cases z) h⟩
theorem PlcAt.keep {H H' : Hp} {p q : Addr} {a b c d : Int} {t : Nat} (h : PlcAt K H p a b c d) (hp : Pen H q t) (k : Keep q H H') : PlcAt K H' p a b c d := by
  obtain ⟨dx, r, h, h2⟩ := h
  exact ⟨dx, r, k _ _ (hp.ne h fun _ z => by cases z) h, h2.keep hp k⟩
structure Inx (K : PySem.W.Frag) (C : Addr) : Prop where
  ha : PySem.W.findIn K (.ref C) "__class__" = some (some (.builtin "object.__class__"))
  hn : PySem.W.specialIn K (.builtin "object.__class__") "__get__" = some (some (.builtin "getset_descriptor.__get__"))
  ht : PySem.W.takesIn K (.builtin "object.__class__") = some true
  hm : PySem.W.mroIn K C (.type "object") = some true
structure StTx (K : PySem.W.Frag) (mg : Str → Option Value) : Prop where
  gS : mg "Straight" = some (.ref (CS K))
  clS : Cls K (CS K)
  mkS : Mk K (CS K) (He.ma K (CS K) "__init__")
  ixS : Inx K (CS K)
  nI : NoAttr K (CS K) "i"
  nN : NoAttr K (CS K) "n"
  nO : NoAttr K (CS K) "one"
  kSi : PySem.W.kitOne K (.ref (CS K)) (.type "int") = some false
  kSS : PySem.W.kitOne K (.ref (CS K)) (.ref (CS K)) = some true
  kiS : PySem.W.kitOne K (.type "int") (.ref (CS K)) = some false
  isi : mg "isinstance" = none
  int : mg "int" = none
  bool : mg "bool" = none
theorem StTx.ty {mg : Str → Option Value} (T : StTx K mg) {H : Hp} {p : Addr} {a b c : Int} (h : StrAt K H p a b c) : TyOf K H (.ref p) (.ref (CS K)) := by
  obtain ⟨dx, h⟩ := h
  exact .ins h T.clS T.ixS.ha T.ixS.hn T.ixS.ht T.ixS.hm
section
variable (K : PySem.W.Frag)
def spIsInt : Sp := fun vs H Q _ => ∃ v, vs = [v] ∧ ((∃ i, v = .int i ∧ Q (.bl true) H) ∨ ∃ p a b c, v = .ref p ∧ StrAt K H p a b c ∧ Q (.bl false) H)
end
end Z
set_option maxHeartbeats 4000000
namespace Z
open PySem PySem.Spec PyProof.Rows L2
section
variable {prog : Program} {w : World} {A : Around} {E : Value → Shared → Prop} {s : Shared} {x C dx f : Addr} {K : PySem.W.Frag} {ox : Obj} {od : Option Obj} {b tb : Value}
/-- object's own !=, on an instance whose class has its own == -/
theorem objNe_entry (hu : A.units < cLine) (X : K.In s.heap) (I : PySem.W.InstAt s.heap x ox C od) (hs : PySem.W.findIn K (.ref C) "__eq__" = some (some (.ref f))) (hf : PySem.W.isFn K (.ref f) = true) {Q : Fin → Shared → Prop}
    (hcall : wpAny (model prog w) A (call (.ref f) [.ref x, b]) (fun v s' => ∃ c, v = .bool c ∧ Q (.done (.ret (.bool (!c)))) s') E s) :
    wpAny (model prog w) A (Builtin.«object.__ne__» ⟨[.ref x, b], []⟩) Q E s := by
  unfold Builtin.«object.__ne__»
  repeat (first
    | with_reducible refine wpAny_cRoomFor hu ?_
    | (refine wpAny_bind (m := callSpecialIfBound? (.ref x) (Str.ofString "__eq__") [b])
        (PySem.W.ifBound_K X I hs hf (wpAny_mono hcall (fun r s' hr => by
          obtain ⟨c, rfl, hq⟩ := hr
          repeat (first | exact hq | exact wpAny_pure hq | exact wpAny_truthy_bool hq | (refine wpAny_bind (m := truthy (.bool _)) (wpAny_truthy_bool ?_)) | wp_step)) fun _ _ e => e)))
    | wp_step)
theorem ifBound_slot {M : Model} {name : Str} {id : String} {args : List Value} {Q : Option Value → Shared → Prop} (S : PySem.Slot "object" name id) (X : K.In s.heap) (I : PySem.W.InstAt s.heap x ox C od) (hs : PySem.W.findIn K (.ref C) name = some (some (.builtin id)))
    (h : wpAny M A (call (.builtin id) (.ref x :: args)) (fun v => Q (some v)) E s) : wpAny M A (callSpecialIfBound? (.ref x) name args) Q E s := by
  simp only [callSpecialIfBound?, bindSpecialIfBound?]
  refine wpAny_holding (wpAny_bind (wpAny_bind (wpAny_bind (I.type.here ((PySem.W.looks_findIn X hs).here ?_)))))
  simp only [S.bind]
  refine wpAny_bind (wpAny_askSetting (wpAny_ite ?_))
  have fin : wpAny M A (call (.builtin id) ([.ref x] ++ args) >>= fun v => pure (some v)) Q E s := wpAny_bind (wpAny_mono h (fun v s' h' => wpAny_pure h') fun _ _ h' => h')
  split
  · exact wpAny_bind (wpAny_pure (wpAny_pure fin))
  · exact wpAny_tryCatch (wpAny_bind (wpAny_pure (wpAny_pure fin)))
theorem ne_K {Q : Value → Shared → Prop} (hu : A.units + 1 < cLine) (X : K.In s.heap) (I : PySem.W.InstAt s.heap x ox C od) (hb : PySem.W.Looks (model prog w) s.heap (typeOf b) tb) (hn : PySem.W.notFirst K C tb = true)
    (hN : PySem.W.findIn K (.ref C) "__ne__" = some (some (.builtin "object.__ne__"))) (hO : PySem.W.subIn K (.ref C) (.type "object") = some true)
    (hs : PySem.W.findIn K (.ref C) "__eq__" = some (some (.ref f))) (hf : PySem.W.isFn K (.ref f) = true)
    (h : wpAny (model prog w) A.in1 (call (.ref f) [.ref x, b]) (fun v s' => ∃ c, v = .bool c ∧ Q (.bool (!c)) s') E s) : wpAny (model prog w) A (richCompare .NotEq (.ref x) b) Q E s := by
  have one : wpAny (model prog w) A (tryCompare (.ref x) "__ne__" b) (fun r s' => ∃ v, r = some v ∧ Q v s') E s := by
    unfold tryCompare
    refine wpAny_bind (ifBound_slot PySem.F.cmp_object.ne X I hN (wpAny_call (codeAny_call_builtin PySem.F.cmp_object.ne.plain PySem.F.cmpEntry_ne
      (PySem.W.check_slot PySem.F.cmpKind_ne PySem.F.cmpSplit_ne (I.type.andThen (PySem.W.looks_subIn X hO)) (PySem.F.cmpArgs_ne _ _)
        (objNe_entry (A := A.in1) hu X I hs hf (wpAny_mono h (fun v s' hv => ?_) fun _ _ e => e))))))
    obtain ⟨c, rfl, hq⟩ := hv
    first | exact ⟨c, rfl, wpAny_pure ⟨_, rfl, hq⟩⟩ | exact ⟨c, rfl, ⟨_, rfl, hq⟩⟩
  unfold richCompare
  simp only [oneThing_ref]
  refine wpAny_holding (wpAny_bind (wpAny_cRoomFor (Nat.lt_of_succ_lt hu) ?_))
  rw [cmpInfo_NotEq]
  dsimp only
  refine wpAny_bind (I.type.here (wpAny_bind (hb.here ?_)))
  split
  · rename_i q
    have e : PySem.W.subIn K tb (.ref C) = some false := by
      rcases Bool.or_eq_true_iff.mp hn with e | e
      · rw [beq_iff_eq.mp e] at q; simp at q
      · exact beq_iff_eq.mp e
    refine wpAny_bind ((PySem.W.looks_subIn X e).here ?_)
    simp only [Bool.false_eq_true, if_false]
    refine wpAny_bind (wpAny_mono one (fun r s' z => ?_) fun _ _ e => e)
    obtain ⟨v, rfl, hq⟩ := z
    exact wpAny_pure hq
  · refine wpAny_bind (wpAny_pure ?_)
    simp only [Bool.false_eq_true, if_false]
    refine wpAny_bind (wpAny_mono one (fun r s' z => ?_) fun _ _ e => e)
    obtain ⟨v, rfl, hq⟩ := z
    exact wpAny_pure hq
end
section
variable {X : Cx}
/-- what != asks of the class -/
structure NeC (K : PySem.W.Frag) (C : Addr) : Prop where
  ne : PySem.W.findIn K (.ref C) "__ne__" = some (some (.builtin "object.__ne__"))
  ob : PySem.W.subIn K (.ref C) (.type "object") = some true
/-- x != y, x of the class C with its own ==, no != -/
def rNeOwn (K : PySem.W.Frag) (C : Addr) (sp : Sp) : R2 := fun x y H Q => ∃ (a dx : Addr) (fs : List (Str × V)) (t : Value), x = .ref a ∧ H a = some (.ins C dx fs) ∧ TyOf K H y t ∧ PySem.W.notFirst K C t = true ∧ sp [x, y] H (fun z H' => ∃ c, z = .bl c ∧ Q (.bl (!c)) H') E0
theorem op_neOwn {C : Addr} {k j : Nat} {sp : Sp} (O : Om X.prog X.w X.K X.mg X.base C j "__eq__" sp) (N : NeC X.K C) (hr : Room k X.A) (hjk : j + 1 ≤ k := by decide) : OpR X (compareOp .NotEq) (rNeOwn X.K C sp) := by
  intro pins s σ H x y v u Q I rx ry h
  obtain ⟨a, dx, fs, t, rfl, ha, ty, hn, q⟩ := h
  obtain ⟨f, fd, ps, F, hs, hf, hbd⟩ := O
  have rr : Vals [V.ref a, y] [v, u] := .cons rx (.cons ry .nil)
  cases (show v = Value.ref a from rx)
  obtain ⟨od, J⟩ := ins_at I ha
  show wpAny (model X.prog X.w) X.A (richCompare .NotEq (.ref a) u) (EP X pins σ Q) X.xe s
  have hr1 : Room (j + 1) X.A := hr.mono hjk
  refine ne_K (by have := hr.un; omega) I.kIn J (ty_looks I ry ty) hn N.ne N.ob hs hf ?_
  have R := FnOk.raw F hbd .nil
  refine wpAny_mono (wpAny_call (SlX.run_at (us := [.ref a, u]) (ws := [.ref a, y]) R hr1.in1 I.env0.in1 pass0 I rr (by rw [List.append_nil]; exact q))) (fun z s' hz => ?_) fun _ _ e => e
  obtain ⟨z', H', I', rz, c, ec, qc⟩ := hz
  subst ec
  cases (show z = Value.bool c from rz)
  exact ⟨c, rfl, .bl (!c), H', I', rfl, qc⟩
end
end Z
set_option maxHeartbeats 4000000
namespace Z
open PySem PySem.Spec PyProof.Rows L2
def Bd (n : Nat) (x : Int) : Prop := x.natAbs < 2 ^ n
theorem Bd.mono {n m : Nat} {x : Int} (h : Bd n x) (e : n ≤ m) : Bd m x := Nat.lt_of_lt_of_le h (Nat.pow_le_pow_right (by decide) e)
theorem Bd.add {n : Nat} {x y : Int} (h : Bd n x) (g : Bd n y) : Bd (n + 1) (x + y) := by
  unfold Bd at *
  rw [Nat.pow_succ]
  omega
theorem Bd.of {n : Nat} {x : Int} (N : Nat) (hN : N < 2 ^ n) (h1 : -(N : Int) ≤ x) (h2 : x ≤ (N : Int)) : Bd n x := by
  unfold Bd
  omega
end Z
set_option maxHeartbeats 4000000
namespace Z
open PySem PySem.Spec PyProof.Rows L2
end Z
namespace Z
theorem fe {x g : Int} (h : 0 < g) : x.fdiv g = x / g := Int.fdiv_eq_ediv_of_nonneg _ (Int.le_of_lt h)
end Z
set_option maxHeartbeats 4000000
namespace Z
open PySem PySem.Spec PyProof.Rows L2
def g2 (a b : Int) : Nat := Nat.gcd a.natAbs b.natAbs
theorem fm {x m : Int} (h : 0 < m) : x.fmod m = x % m := Int.fmod_eq_emod_of_nonneg _ (Int.le_of_lt h)
section
variable (K : PySem.W.Frag)
abbrev CA : Addr := He.ga K "AtLeast"
abbrev CR : Addr := He.ga K "Rest"
def af (q : Addr) : List (Str × V) := putF "straight" (.ref q) []
def rf (q : Addr) (m r : Int) : List (Str × V) := putF "rest" (.int r) (putF "modulus" (.int m) (putF "straight" (.ref q) []))
def AtlAt (H : Hp) (p : Addr) (a b c : Int) : Prop := ∃ dx q, H p = some (.ins (CA K) dx (af q)) ∧ StrAt K H q a b c
def RstAt (H : Hp) (p : Addr) (a b m r : Int) : Prop := ∃ dx q, H p = some (.ins (CR K) dx (rf q m r)) ∧ StrAt K H q a b 0
end
variable {K : PySem.W.Frag}
theorem AtlAt.same {H H' : Hp} {p : Addr} {a b c : Int} (h : AtlAt K H p a b c) (s : Same H H') : AtlAt K H' p a b c := by
  obtain ⟨dx, q, h, h2⟩ := h
  exact ⟨dx, q, s _ _ h, h2.same s⟩
theorem RstAt.same {H H' : Hp} {p : Addr} {a b m r : Int} (h : RstAt K H p a b m r) (s : Same H H') : RstAt K H' p a b m r := by
  obtain ⟨dx, q, h, h2⟩ := h
  exact ⟨dx, q, s _ _ h, h2.same s⟩
theorem AtlAt.keep {H H' : Hp} {p q : Addr} {a b c : Int} {t : Nat} (h : AtlAt K H p a b c) (hp : Pen H q t) (k : Keep q H H') : AtlAt K H' p a b c := by
  obtain ⟨dx, r, h, h2⟩ := h
  exact ⟨dx, r, k _ _ (hp.ne h fun _ z => by cases z) h, h2.keep hp k⟩
theorem RstAt.keep {H H' : Hp} {p q : Addr} {a b m r : Int} {t : Nat} (h : RstAt K H p a b m r) (hp : Pen H q t) (k : Keep q H H') : RstAt K H' p a b m r := by
  obtain ⟨dx, r, h, h2⟩ := h
  exact ⟨dx, r, k _ _ (hp.ne h fun _ z => by cases z) h, h2.keep hp k⟩
end Z
set_option maxHeartbeats 4000000
namespace Z
open PySem PySem.Spec PyProof.Rows L2
end Z
namespace Z
open PySem PySem.Spec PyProof.Rows L2
end Z
set_option maxHeartbeats 4000000
namespace Z
open PySem PySem.Spec PyProof.Rows L2
/-- the ends of a suite behind which slot i is bare -/
def bare (i : Nat) (D : Ends) : Ends := { nx := fun σ' H' => D.nx (σ'.set i none) H', rt := D.rt, bk := fun σ' H' => D.bk (σ'.set i none) H', ct := fun σ' H' => D.ct (σ'.set i none) H' }
end Z
set_option maxHeartbeats 4000000
namespace Z
open PySem PySem.Spec PyProof.Rows L2
inductive Er where
  | num (w : Str) (v : Int)
  | many (w : Str) (m l : Int)
  | name (x : Str)
def Er.cls (K : PySem.W.Frag) : Er → Addr
  | .num _ _ => He.ga K "BadNumber"
  | .many _ _ _ => He.ga K "TooMany"
  | .name _ => He.ga K "BadName"
def Er.fs : Er → List (Str × V)
  | .num w v => [("number", .int v), ("what", .str w)]
  | .many w m l => [("limit", .int l), ("many", .int m), ("what", .str w)]
  | .name x => [("name", .str x)]
section
variable (K : PySem.W.Frag)
/-- the error is raised, all else as it was -/
def Rz (H : Hp) (E : XK) (e : Er) : Prop := ∀ d H', Same H H' → H' d = some (.xd e.fs) → E (.ref (e.cls K)) (some d) H'
end
/-- the first error of all, or what follows -/
def Out (o : Option Er) (r : Er → Prop) (q : Prop) : Prop := (∀ e, o = some e → r e) ∧ (o = none → q)
theorem Out.none {r : Er → Prop} {q : Prop} (h : q) : Out none r q := ⟨fun _ z => (by cases z), fun _ => h⟩
theorem Out.ok {o : Option Er} {r : Er → Prop} {q : Prop} (h : o = Option.none) (k : q) : Out o r q := ⟨fun _ z => (by rw [h] at z; cases z), fun _ => k⟩
section
variable {K : PySem.W.Frag} {H H1 : Hp} {E : XK} {e : Er} {p : Addr}
theorem Rz.same (h : Rz K H E e) (s : Same H H1) : Rz K H1 E e := fun d H' s' hd => h d H' (s.trans s') hd
end
def kept : List Str := ["for", "i", "from", "n", "below", "by", "down", "if", "and", "mod"]
end Z
namespace Z
open PySem PySem.Spec PyProof.Rows L2
end Z
set_option maxHeartbeats 4000000
namespace Z
open PySem PySem.Spec PyProof.Rows L2
def txtOf (e : Int × Value) : Str := match e.2 with | .str k _ => k | _ => Str.empty
def Tx1 (w : World) (e : Int × Value) : Prop := ∃ k u, e.2 = Value.str k u ∧ e.1 = hashStr w k
structure TxBody (w : World) (l : List Str) (es : Array (Int × Value)) (t : SetTable) : Prop where
  one : ∀ e ∈ es.toList, Tx1 w e
  nd : (es.toList.map txtOf).Nodup
  mem : ∀ k, k ∈ l ↔ k ∈ es.toList.map txtOf
  few : es.size < scanBound
  fit : t.fits es.size = true
  ris : Ris t.place.toList
  led : w.params.followText "set-order" = true ∨ t.led = true
/-- the set at a has the texts of l -/
def TxSet (w : World) (h : Heap) (a : Addr) (l : List Str) : Prop := ∃ o es ep t, h.get? a = some o ∧ o.ExactSet ∧ o.data = .set es ep t ∧ TxBody w l es t
section
variable {P : Program} {w : World} {A : Around} {E : Value → Shared → Prop} {s : Shared} {a : Addr} {l : List Str}
theorem TxSet.at {h h' : Heap} (R : TxSet w h a l) (k : ∀ o, h.get? a = some o → h'.get? a = some o) : TxSet w h' a l := by
  obtain ⟨o, es, ep, t, ho, r⟩ := R
  exact ⟨o, es, ep, t, k o ho, r⟩
theorem len_sub {α : Type} [DecidableEq α] : ∀ (m l : List α), m.Nodup → (∀ x ∈ m, x ∈ l) → m.length ≤ l.length
  | [], l, _, _ => Nat.zero_le _
  | x :: m, l, d, h => by
    obtain ⟨d1, d2⟩ := List.nodup_cons.mp d
    have q := len_sub m (l.erase x) d2 fun y hy => (List.mem_erase_of_ne (fun (z : y = x) => d1 (by rw [← z]; exact hy))).mpr (h y (.tail _ hy))
    have hx := List.length_erase_of_mem (h x (.head _))
    have hp := List.length_pos_of_mem (h x (.head _))
    simp only [List.length_cons]
    omega
theorem TxBody.size {es : Array (Int × Value)} {t : SetTable} (B : TxBody w l es t) : es.size ≤ l.length := by
  have q := len_sub (es.toList.map txtOf) l B.nd fun x hx => (B.mem x).2 hx
  rw [List.length_map, Array.length_toList] at q
  exact q
end
end Z
set_option maxHeartbeats 4000000
namespace Z
open PySem PySem.Spec PyProof.Rows L2
/-- a walk of a list or a tuple -/
def iAny (K : PySem.W.Frag) (tl : TE) : TI := fun σ H R => tl σ H fun x H1 => ∃ a, x = .ref a ∧ (((∃ xs, SqL K H1 a xs) ∧ R (Itl K a) H1) ∨ ((∃ xs, SqT K H1 a xs) ∧ R (Itt K a) H1))
theorem pi_any {X : Cx} {tg l : Expr} {tl : TE} (hl : PE X l tl) : PI X tg l (iAny X.K tl) := by
  refine ⟨fun pins s σ H R I h => thn (hl.run pins s σ H _ I h) fun v s1 ⟨x, H1, I1, r1, a, e, q⟩ => ?_⟩
  subst e
  cases r1
  have new : Inv X pins σ H1 s1 → H1 s1.heap.objs.size = none := fun I => I.hok.fresh (Nat.le_refl _)
  rcases q with ⟨⟨xs, hq⟩, q⟩ | ⟨⟨xs, hq⟩, q⟩
  · obtain ⟨its, rv, p, hz⟩ := I1.list hq
    refine wpAny_pyIter_list p.isList ⟨s1.heap.objs.size, [s1.heap.objs.size], _, _, H1, rfl, I1.kept (t' := s1.toks) fun b o e => Heap.get?_push_of_some _ e, turn_list a _, ⟨_, Heap.get?_push_size _ rfl, rfl, rfl⟩, fun b hb => ?_, q⟩
    rw [List.mem_singleton.mp hb]
    exact I1.fpOk (Nat.le_refl _) (new I1)
  · obtain ⟨its, rv, p, hz⟩ := I1.tuple hq
    refine wpAny_pyIter_tuple (show s1.heap.IsTuple a its.toArray from p) ⟨s1.heap.objs.size, [s1.heap.objs.size], _, _, H1, rfl, I1.kept (t' := s1.toks) fun b o e => Heap.get?_push_of_some _ e, turn_tuple a _, ⟨_, Heap.get?_push_size _ rfl, rfl, rfl⟩, fun b hb => ?_, q⟩
    rw [List.mem_singleton.mp hb]
    exact I1.fpOk (Nat.le_refl _) (new I1)
end Z
namespace Z
open PySem PySem.Spec PyProof.Rows L2
end Z
namespace Z
open PySem PySem.Spec PyProof.Rows L2
def tupAt (K : PySem.W.Frag) (a : Addr) : Option (List Value) := match K.lookup a with
  | some ⟨.type c, _, .seq its _, _⟩ => if c = "tuple" ∧ its.size ≤ sizeLine then some its.toList else none
  | _ => none
theorem tupAt_ok {K : PySem.W.Frag} {a : Addr} {us : List Value} (h : tupAt K a = some us) {xs : List V} (r : Vals xs us) (H : Hp) : SqT K H a xs := by
  unfold tupAt at h
  cases e : K.lookup a with
  | none =>
    rw [e] at h
    cases h
  | some ob =>
    rw [e] at h
    obtain ⟨oc, od, dt, osl⟩ := ob
    cases oc with
    | type c =>
      cases dt with
      | seq its n =>
        simp only at h
        split at h
        · rename_i z
          obtain ⟨z1, z2⟩ := z
          subst z1
          cases h
          exact .inr ⟨_, _, _, e, rfl, rfl, z2, r⟩
        · cases h
      | _ => cases h
    | _ => cases h
def twoB (K : PySem.W.Frag) (p : Addr) (a b : Bool) : Bool := match tupAt K p with
  | some [.bool x, .bool y] => x == a && y == b
  | _ => false
theorem twoB_ok {K : PySem.W.Frag} {p : Addr} {a b : Bool} (h : twoB K p a b = true) (H : Hp) : SqT K H p [.bl a, .bl b] := by
  unfold twoB at h
  split at h
  · rename_i x y e
    obtain ⟨h1, h2⟩ := Bool.and_eq_true_iff.mp h
    have h1 := eq_of_beq h1
    have h2 := eq_of_beq h2
    subst h1 h2
    exact tupAt_ok (xs := [.bl x, .bl y]) e (.cons rfl (.cons rfl .nil)) H
  · cases h
def kpB (K : PySem.W.Frag) (x : Str) (a b c d : Bool) : Bool := match tupAt K (He.ga K x) with
  | some [.ref p, .ref q] => twoB K p a b && twoB K q c d
  | _ => false
theorem kpB_ok {K : PySem.W.Frag} {x : Str} {a b c d : Bool} (h : kpB K x a b c d = true) (H : Hp) : ∃ p q, SqT K H (He.ga K x) [.ref p, .ref q] ∧ SqT K H p [.bl a, .bl b] ∧ SqT K H q [.bl c, .bl d] := by
  unfold kpB at h
  split at h
  · rename_i p q e
    obtain ⟨h1, h2⟩ := Bool.and_eq_true_iff.mp h
    exact ⟨p, q, tupAt_ok (xs := [.ref p, .ref q]) e (.cons rfl (.cons rfl .nil)) H, twoB_ok h1 H, twoB_ok h2 H⟩
  · cases h
end Z
set_option maxHeartbeats 4000000
namespace K01
open PySem PySem.Spec PyProof.Rows L2 Z
def top (i : Nat) : Stmt := PySem.Challenge.pw_loopsize_k01_sets_told_by_cases.main.body.getD i (.Pass ⟨0, 0, 0, 0⟩)
abbrev s_minimal : Stmt := top 7
abbrev s_minimal_up_to : Stmt := top 8
abbrev s_classes_of : Stmt := top 9
abbrev s_without_states : Stmt := top 10
abbrev s_ahead_of_cycles : Stmt := top 11
abbrev s_refined : Stmt := top 12
abbrev s_in_order : Stmt := top 13
abbrev s_arity_of : Stmt := top 14
abbrev s_settled : Stmt := top 15
abbrev s_joined : Stmt := top 16
abbrev s_joined_freely : Stmt := top 17
abbrev s_verdict_of : Stmt := top 18
abbrev s_numbered : Stmt := top 19
abbrev s_empty_machine : Stmt := top 20
abbrev s_full_machine : Stmt := top 21
abbrev s_explored : Stmt := top 23
abbrev s_explored_freely : Stmt := top 24
abbrev s_digit_sums : Stmt := top 25
abbrev s_between_machine : Stmt := top 26
abbrev s_least_machine : Stmt := top 27
abbrev s_rest_machine : Stmt := top 28
abbrev s_one_rest_machine : Stmt := top 29
abbrev s_shortest : Stmt := top 30
abbrev s_condition_machine : Stmt := top 31
abbrev s_case_machines : Stmt := top 32
abbrev s_machine_of_cases : Stmt := top 33
abbrev s_joined_at_last : Stmt := top 34
abbrev s_in_all : Stmt := top 35
abbrev s_is_integer : Stmt := top 40
abbrev s_is_natural : Stmt := top 41
abbrev s_is_laborious : Stmt := top 47
abbrev s_masks_of : Stmt := top 48
abbrev s_side_by_side : Stmt := top 49
abbrev s_surely_above : Stmt := top 50
abbrev s_mask_of : Stmt := top 51
abbrev s_bundles_behind : Stmt := top 52
abbrev s_states_behind : Stmt := top 53
abbrev s_spread : Stmt := top 54
abbrev s_is_row : Stmt := top 58
abbrev s_state_behind : Stmt := top 59
abbrev s_least_told_set : Stmt := top 60
abbrev s_digit_set : Stmt := top 61
abbrev s_is_none : Stmt := top 62
abbrev s_is_all : Stmt := top 63
abbrev s_law_pen : Stmt := top 65
abbrev s_law_draw : Stmt := top 66
abbrev s_law_pick : Stmt := top 67
abbrev s_law_big : Stmt := top 68
abbrev s_law_condition : Stmt := top 69
abbrev s_law_cases : Stmt := top 70
abbrev s_law_holds : Stmt := top 71
abbrev s_law_in_cases : Stmt := top 72
abbrev s_law_number : Stmt := top 73
abbrev s_law_row : Stmt := top 74
abbrev s_law_rows : Stmt := top 75
abbrev s_law_none_in : Stmt := top 76
abbrev s_law : Stmt := top 77
abbrev iTooLarge__init__ : Stmt := inClass (top 38) 0
abbrev iDigitSet__init__ : Stmt := inClass (top 57) 0
abbrev iDigitSet__contains__ : Stmt := inClass (top 57) 1
abbrev iDigitSet__eq__ : Stmt := inClass (top 57) 2
def d_minimal : He.DefD := ⟨("minimal", none), "minimal", "minimal", defArgs s_minimal, defBody s_minimal, defScope s_minimal, [], []⟩
def d_minimal_up_to : He.DefD := ⟨("minimal_up_to", none), "minimal_up_to", "minimal_up_to", defArgs s_minimal_up_to, defBody s_minimal_up_to, defScope s_minimal_up_to, [], []⟩
def d_classes_of : He.DefD := ⟨("classes_of", none), "classes_of", "classes_of", defArgs s_classes_of, defBody s_classes_of, defScope s_classes_of, [], []⟩
def d_without_states : He.DefD := ⟨("without_states", none), "without_states", "without_states", defArgs s_without_states, defBody s_without_states, defScope s_without_states, [], []⟩
def d_ahead_of_cycles : He.DefD := ⟨("ahead_of_cycles", none), "ahead_of_cycles", "ahead_of_cycles", defArgs s_ahead_of_cycles, defBody s_ahead_of_cycles, defScope s_ahead_of_cycles, [], []⟩
def d_refined : He.DefD := ⟨("refined", none), "refined", "refined", defArgs s_refined, defBody s_refined, defScope s_refined, [], []⟩
def d_in_order : He.DefD := ⟨("in_order", none), "in_order", "in_order", defArgs s_in_order, defBody s_in_order, defScope s_in_order, [], []⟩
def d_arity_of : He.DefD := ⟨("arity_of", none), "arity_of", "arity_of", defArgs s_arity_of, defBody s_arity_of, defScope s_arity_of, [], []⟩
def d_settled : He.DefD := ⟨("settled", none), "settled", "settled", defArgs s_settled, defBody s_settled, defScope s_settled, [], []⟩
def d_joined : He.DefD := ⟨("joined", none), "joined", "joined", defArgs s_joined, defBody s_joined, defScope s_joined, [], []⟩
def d_joined_freely : He.DefD := ⟨("joined_freely", none), "joined_freely", "joined_freely", defArgs s_joined_freely, defBody s_joined_freely, defScope s_joined_freely, [], []⟩
def d_verdict_of : He.DefD := ⟨("verdict_of", none), "verdict_of", "verdict_of", defArgs s_verdict_of, defBody s_verdict_of, defScope s_verdict_of, [], []⟩
def d_numbered : He.DefD := ⟨("numbered", none), "numbered", "numbered", defArgs s_numbered, defBody s_numbered, defScope s_numbered, [], []⟩
def d_empty_machine : He.DefD := ⟨("empty_machine", none), "empty_machine", "empty_machine", defArgs s_empty_machine, defBody s_empty_machine, defScope s_empty_machine, [], []⟩
def d_full_machine : He.DefD := ⟨("full_machine", none), "full_machine", "full_machine", defArgs s_full_machine, defBody s_full_machine, defScope s_full_machine, [], []⟩
def d_explored : He.DefD := ⟨("explored", none), "explored", "explored", defArgs s_explored, defBody s_explored, defScope s_explored, [], []⟩
def d_explored_freely : He.DefD := ⟨("explored_freely", none), "explored_freely", "explored_freely", defArgs s_explored_freely, defBody s_explored_freely, defScope s_explored_freely, [], []⟩
def d_digit_sums : He.DefD := ⟨("digit_sums", none), "digit_sums", "digit_sums", defArgs s_digit_sums, defBody s_digit_sums, defScope s_digit_sums, [], []⟩
def d_between_machine : He.DefD := ⟨("between_machine", none), "between_machine", "between_machine", defArgs s_between_machine, defBody s_between_machine, defScope s_between_machine, [], []⟩
def d_least_machine : He.DefD := ⟨("least_machine", none), "least_machine", "least_machine", defArgs s_least_machine, defBody s_least_machine, defScope s_least_machine, [], []⟩
def d_rest_machine : He.DefD := ⟨("rest_machine", none), "rest_machine", "rest_machine", defArgs s_rest_machine, defBody s_rest_machine, defScope s_rest_machine, [], []⟩
def d_one_rest_machine : He.DefD := ⟨("one_rest_machine", none), "one_rest_machine", "one_rest_machine", defArgs s_one_rest_machine, defBody s_one_rest_machine, defScope s_one_rest_machine, [], []⟩
def d_shortest : He.DefD := ⟨("shortest", none), "shortest", "shortest", defArgs s_shortest, defBody s_shortest, defScope s_shortest, [], []⟩
def d_condition_machine : He.DefD := ⟨("condition_machine", none), "condition_machine", "condition_machine", defArgs s_condition_machine, defBody s_condition_machine, defScope s_condition_machine, [], []⟩
def d_case_machines : He.DefD := ⟨("case_machines", none), "case_machines", "case_machines", defArgs s_case_machines, defBody s_case_machines, defScope s_case_machines, [], []⟩
def d_machine_of_cases : He.DefD := ⟨("machine_of_cases", none), "machine_of_cases", "machine_of_cases", defArgs s_machine_of_cases, defBody s_machine_of_cases, defScope s_machine_of_cases, [], []⟩
def d_joined_at_last : He.DefD := ⟨("joined_at_last", none), "joined_at_last", "joined_at_last", defArgs s_joined_at_last, defBody s_joined_at_last, defScope s_joined_at_last, [], []⟩
def d_in_all : He.DefD := ⟨("in_all", none), "in_all", "in_all", defArgs s_in_all, defBody s_in_all, defScope s_in_all, [], []⟩
def d_is_integer : He.DefD := ⟨("is_integer", none), "is_integer", "is_integer", defArgs s_is_integer, defBody s_is_integer, defScope s_is_integer, [], []⟩
def d_is_natural : He.DefD := ⟨("is_natural", none), "is_natural", "is_natural", defArgs s_is_natural, defBody s_is_natural, defScope s_is_natural, [], []⟩
def d_is_laborious : He.DefD := ⟨("is_laborious", none), "is_laborious", "is_laborious", defArgs s_is_laborious, defBody s_is_laborious, defScope s_is_laborious, [], []⟩
def d_masks_of : He.DefD := ⟨("masks_of", none), "masks_of", "masks_of", defArgs s_masks_of, defBody s_masks_of, defScope s_masks_of, [], []⟩
def d_side_by_side : He.DefD := ⟨("side_by_side", none), "side_by_side", "side_by_side", defArgs s_side_by_side, defBody s_side_by_side, defScope s_side_by_side, [], []⟩
def d_surely_above : He.DefD := ⟨("surely_above", none), "surely_above", "surely_above", defArgs s_surely_above, defBody s_surely_above, defScope s_surely_above, [], []⟩
def d_mask_of : He.DefD := ⟨("mask_of", none), "mask_of", "mask_of", defArgs s_mask_of, defBody s_mask_of, defScope s_mask_of, [], []⟩
def d_bundles_behind : He.DefD := ⟨("bundles_behind", none), "bundles_behind", "bundles_behind", defArgs s_bundles_behind, defBody s_bundles_behind, defScope s_bundles_behind, [], []⟩
def d_states_behind : He.DefD := ⟨("states_behind", none), "states_behind", "states_behind", defArgs s_states_behind, defBody s_states_behind, defScope s_states_behind, [], []⟩
def d_spread : He.DefD := ⟨("spread", none), "spread", "spread", defArgs s_spread, defBody s_spread, defScope s_spread, [], []⟩
def d_is_row : He.DefD := ⟨("is_row", none), "is_row", "is_row", defArgs s_is_row, defBody s_is_row, defScope s_is_row, [], []⟩
def d_state_behind : He.DefD := ⟨("state_behind", none), "state_behind", "state_behind", defArgs s_state_behind, defBody s_state_behind, defScope s_state_behind, [], []⟩
def d_least_told_set : He.DefD := ⟨("least_told_set", none), "least_told_set", "least_told_set", defArgs s_least_told_set, defBody s_least_told_set, defScope s_least_told_set, [], []⟩
def d_digit_set : He.DefD := ⟨("digit_set", none), "digit_set", "digit_set", defArgs s_digit_set, defBody s_digit_set, defScope s_digit_set, [], []⟩
def d_is_none : He.DefD := ⟨("is_none", none), "is_none", "is_none", defArgs s_is_none, defBody s_is_none, defScope s_is_none, [], []⟩
def d_is_all : He.DefD := ⟨("is_all", none), "is_all", "is_all", defArgs s_is_all, defBody s_is_all, defScope s_is_all, [], []⟩
def d_law_pen : He.DefD := ⟨("_law_pen", none), "_law_pen", "_law_pen", defArgs s_law_pen, defBody s_law_pen, defScope s_law_pen, [], []⟩
def d_law_draw : He.DefD := ⟨("_law_draw", none), "_law_draw", "_law_draw", defArgs s_law_draw, defBody s_law_draw, defScope s_law_draw, [], []⟩
def d_law_pick : He.DefD := ⟨("_law_pick", none), "_law_pick", "_law_pick", defArgs s_law_pick, defBody s_law_pick, defScope s_law_pick, [], []⟩
def d_law_big : He.DefD := ⟨("_law_big", none), "_law_big", "_law_big", defArgs s_law_big, defBody s_law_big, defScope s_law_big, [], []⟩
def d_law_condition : He.DefD := ⟨("_law_condition", none), "_law_condition", "_law_condition", defArgs s_law_condition, defBody s_law_condition, defScope s_law_condition, [], []⟩
def d_law_cases : He.DefD := ⟨("_law_cases", none), "_law_cases", "_law_cases", defArgs s_law_cases, defBody s_law_cases, defScope s_law_cases, [], []⟩
def d_law_holds : He.DefD := ⟨("_law_holds", none), "_law_holds", "_law_holds", defArgs s_law_holds, defBody s_law_holds, defScope s_law_holds, [], []⟩
def d_law_in_cases : He.DefD := ⟨("_law_in_cases", none), "_law_in_cases", "_law_in_cases", defArgs s_law_in_cases, defBody s_law_in_cases, defScope s_law_in_cases, [], []⟩
def d_law_number : He.DefD := ⟨("_law_number", none), "_law_number", "_law_number", defArgs s_law_number, defBody s_law_number, defScope s_law_number, [], []⟩
def d_law_row : He.DefD := ⟨("_law_row", none), "_law_row", "_law_row", defArgs s_law_row, defBody s_law_row, defScope s_law_row, [], []⟩
def d_law_rows : He.DefD := ⟨("_law_rows", none), "_law_rows", "_law_rows", defArgs s_law_rows, defBody s_law_rows, defScope s_law_rows, [], []⟩
def d_law_none_in : He.DefD := ⟨("_law_none_in", none), "_law_none_in", "_law_none_in", defArgs s_law_none_in, defBody s_law_none_in, defScope s_law_none_in, [], []⟩
def d_law : He.DefD := ⟨("law", none), "law", "law", defArgs s_law, defBody s_law, defScope s_law, [], []⟩
def dTooLarge__init__ : He.DefD := ⟨("TooLarge", some "__init__"), "__init__", "TooLarge.__init__", defArgs iTooLarge__init__, defBody iTooLarge__init__, defScope iTooLarge__init__, [], []⟩
def dDigitSet__init__ : He.DefD := ⟨("DigitSet", some "__init__"), "__init__", "DigitSet.__init__", defArgs iDigitSet__init__, defBody iDigitSet__init__, defScope iDigitSet__init__, [], []⟩
def dDigitSet__contains__ : He.DefD := ⟨("DigitSet", some "__contains__"), "__contains__", "DigitSet.__contains__", defArgs iDigitSet__contains__, defBody iDigitSet__contains__, defScope iDigitSet__contains__, [], []⟩
def dDigitSet__eq__ : He.DefD := ⟨("DigitSet", some "__eq__"), "__eq__", "DigitSet.__eq__", defArgs iDigitSet__eq__, defBody iDigitSet__eq__, defScope iDigitSet__eq__, [], []⟩
def fn0 : List He.DefD := [d_minimal, d_minimal_up_to, d_classes_of, d_without_states, d_ahead_of_cycles, d_refined, d_in_order, d_arity_of]
def fn1 : List He.DefD := [d_settled, d_joined, d_joined_freely, d_verdict_of, d_numbered, d_empty_machine, d_full_machine, d_explored]
def fn2 : List He.DefD := [d_explored_freely, d_digit_sums, d_between_machine, d_least_machine, d_rest_machine, d_one_rest_machine, d_shortest, d_condition_machine]
def fn3 : List He.DefD := [d_case_machines, d_machine_of_cases, d_joined_at_last, d_in_all, d_is_integer, d_is_natural, d_is_laborious, d_masks_of]
def fn4 : List He.DefD := [d_side_by_side, d_surely_above, d_mask_of, d_bundles_behind, d_states_behind, d_spread, d_is_row, d_state_behind]
def fn5 : List He.DefD := [d_least_told_set, d_digit_set, d_is_none, d_is_all, d_law_pen, d_law_draw, d_law_pick, d_law_big]
def fn6 : List He.DefD := [d_law_condition, d_law_cases, d_law_holds, d_law_in_cases, d_law_number, d_law_row, d_law_rows, d_law_none_in]
def fn7 : List He.DefD := [d_law, dTooLarge__init__, dDigitSet__init__, dDigitSet__contains__, dDigitSet__eq__]
def fnP0 : List He.DefD := fn0 ++ fn1 ++ fn2
def fnP1 : List He.DefD := fn3 ++ fn4 ++ fn5
def fnP2 : List He.DefD := fn6 ++ fn7
def fn : List He.DefD := fnP0 ++ fnP1 ++ fnP2
def glos0 : List Str := ["LoopError", "TooLarge", "DigitSet", "minimal", "minimal_up_to", "classes_of", "without_states", "ahead_of_cycles"]
def glos1 : List Str := ["refined", "in_order", "arity_of", "settled", "joined", "joined_freely", "verdict_of", "numbered"]
def glos2 : List Str := ["empty_machine", "full_machine", "explored", "explored_freely", "digit_sums", "between_machine", "least_machine", "rest_machine"]
def glos3 : List Str := ["one_rest_machine", "shortest", "condition_machine", "case_machines", "machine_of_cases", "joined_at_last", "in_all", "is_integer"]
def glos4 : List Str := ["is_natural", "is_laborious", "masks_of", "side_by_side", "surely_above", "mask_of", "bundles_behind", "states_behind"]
def glos5 : List Str := ["spread", "is_row", "state_behind", "least_told_set", "digit_set", "is_none", "is_all", "_law_pen"]
def glos6 : List Str := ["_law_draw", "_law_pick", "_law_big", "_law_condition", "_law_cases", "_law_holds", "_law_in_cases", "_law_number"]
def glos7 : List Str := ["_law_row", "_law_rows", "_law_none_in", "law"]
def glos : List Str := glos0 ++ glos1 ++ glos2 ++ glos3 ++ glos4 ++ glos5 ++ glos6 ++ glos7
def frees0 : List Str := ["int", "len", "list", "isinstance", "range", "str", "bool", "max"]
def frees1 : List Str := ["min", "tuple", "all", "any", "set", "sorted", "enumerate", "sum"]
def frees2 : List Str := ["zip", "dict", "reversed"]
def frees : List Str := frees0 ++ frees1 ++ frees2
def owns0 : List Str := ["DigitSet"]
def owns : List Str := owns0
def atts0 : List (Str × Str) := [("DigitSet", "arity"), ("DigitSet", "rows"), ("DigitSet", "ends"), ("DigitSet", "states")]
def atts : List (Str × Str) := atts0
def mets0 : List (Str × Str) := [("DigitSet", "__init__"), ("DigitSet", "__contains__"), ("DigitSet", "__eq__")]
def mets : List (Str × Str) := mets0
def oprs0 : List (Str × String) := []
def oprs : List (Str × String) := oprs0
def excs0 : List (Str × List Str) := [("TooLarge", ["most"])]
def excs : List (Str × List Str) := excs0
def kits (K : PySem.W.Frag) : Bool := true && decide (PySem.W.kitOne K (.ref (He.ga K "DigitSet")) (.ref (He.ga K "DigitSet")) = some true) && decide (PySem.W.kitOne K (.type "NoneType") (.ref (He.ga K "DigitSet")) = some false) && decide (PySem.W.kitOne K (.type "bool") (.ref (He.ga K "DigitSet")) = some false) && decide (PySem.W.kitOne K (.type "int") (.ref (He.ga K "DigitSet")) = some false) && decide (PySem.W.kitOne K (.type "str") (.ref (He.ga K "DigitSet")) = some false) && decide (PySem.W.kitOne K (.type "list") (.ref (He.ga K "DigitSet")) = some false) && decide (PySem.W.kitOne K (.type "tuple") (.ref (He.ga K "DigitSet")) = some false) && decide (PySem.W.kitOne K (.type "dict") (.ref (He.ga K "DigitSet")) = some false)
def insB (K : PySem.W.Frag) (C : Addr) : Bool := He.eqO (PySem.W.findIn K (.ref C) "__class__") (some (some (.builtin "object.__class__"))) && (He.eqO (PySem.W.specialIn K (.builtin "object.__class__") "__get__") (some (some (.builtin "getset_descriptor.__get__"))) && (decide (PySem.W.takesIn K (.builtin "object.__class__") = some true) && decide (PySem.W.mroIn K C (.type "object") = some true)))
def faP0 : List FaK := [
  fun K => glos.all fun x => (He.Fa.glo x).ok K,
  fun K => frees.all fun x => (He.Fa.free x).ok K,
  fun K => owns.all fun x => (He.Fa.cls x).ok K && ((He.Fa.mkr x).ok K && insB K (He.ga K x))]
def faP1 : List FaK := [
  fun K => atts.all fun q => (He.Fa.noat q.1 q.2).ok K,
  fun K => mets.all fun q => (He.Fa.meth q.1 q.2).ok K]
def faP2 : List FaK := [
  fun K => oprs.all fun q => opiB K (He.ga K q.1) q.2,
  fun K => excs.all fun q => exkB K (He.ga K q.1) && (oexB K (He.ga K q.1) && (He.eqO (PySem.W.findIn K (.ref (He.ga K q.1)) "__init__") (some (some (.ref (He.ma K (He.ga K q.1) "__init__")))) && (decide (PySem.W.typeIn K (.ref (He.ma K (He.ga K q.1) "__init__")) = some (.type "function")) &&
    q.2.all fun f => He.eqO (PySem.W.findIn K (.ref (He.ga K q.1)) f) (some none)))),
  kits,
  fun K => He.eqO (PySem.W.nsIn K mainGlobals "gcd") (some (some (.builtin "math.gcd"))),
  fun K => ([("SURELY_IN", -1125899906842624), ("SURELY_OUT", -1099511627776), ("BETWEEN", -35184372088832), ("MOST_STATES", 400), ("LABORIOUS", 1000000)] : List (Str × Int)).all fun q => (match PySem.W.nsIn K mainGlobals q.1 with | some (some (.int i _)) => decide (i = q.2) | _ => false),
  fun K => (He.Fa.glo "BOTH").ok K && ((He.Fa.glo "EITHER").ok K && (kpB K "BOTH" false false false true && kpB K "EITHER" false true true true)),
  fun K => He.eqO (PySem.W.findIn K (.ref (He.ga K "DigitSet")) "__ne__") (some (some (.builtin "object.__ne__"))) && decide (PySem.W.subIn K (.ref (He.ga K "DigitSet")) (.type "object") = some true),
  fun K => (["between_machine", "least_machine", "rest_machine", "one_rest_machine"] : List Str).all fun x => (match PySem.W.tabIn K x with | some (_, a) => (K.lookup a).isNone | _ => false),
  fun K => ([("between_machine", "least_machine"), ("between_machine", "rest_machine"), ("between_machine", "one_rest_machine"), ("least_machine", "rest_machine"), ("least_machine", "one_rest_machine"), ("rest_machine", "one_rest_machine")] : List (Str × Str)).all fun q => (match PySem.W.tabIn K q.1, PySem.W.tabIn K q.2 with | some (_, a), some (_, b) => decide (a ≠ b) | _, _ => false)]
def fa : List FaK := faP0 ++ faP1 ++ faP2
abbrev R : PySem.W.OpenRow := PySem.W.OpenLaw.row PySem.Challenge.rw_loopsize_k01_sets_told_by_cases
abbrev hk : PySem.W.Hook := hookRT 1000 fa fn
def ob (s : PySem.W.SharedT) : He.AlD := obsRT 1000 fa fn (HandSHeadRun.getT s)
theorem ob_eq (s : PySem.W.SharedT) : ob s = hk.obs s.abs := obsRT_eq (HandSHeadRun.getT_eq s)
def names0 : List Str := ["minimal", "minimal_up_to", "classes_of", "without_states", "ahead_of_cycles", "refined", "in_order", "arity_of"]
def names1 : List Str := ["settled", "joined", "joined_freely", "verdict_of", "numbered", "empty_machine", "full_machine", "explored"]
def names2 : List Str := ["explored_freely", "digit_sums", "shortest", "condition_machine", "case_machines", "machine_of_cases", "joined_at_last", "in_all"]
def names3 : List Str := ["LoopError", "TooLarge", "is_integer", "is_natural", "is_laborious", "masks_of", "side_by_side", "surely_above"]
def names4 : List Str := ["mask_of", "bundles_behind", "states_behind", "spread", "DigitSet", "is_row", "state_behind", "least_told_set"]
def names5 : List Str := ["digit_set", "is_none", "is_all", "_law_pen", "_law_draw", "_law_pick", "_law_big", "_law_condition"]
def names6 : List Str := ["_law_cases", "_law_holds", "_law_in_cases", "_law_number", "_law_row", "_law_rows", "_law_none_in", "SURELY_OUT"]
def names7 : List Str := ["SURELY_IN", "BETWEEN", "BOTH", "EITHER", "MANY_BITS", "MOST_LEVELS", "MOST_AT_ONCE", "LABORIOUS"]
def names8 : List Str := ["MOST_STATES"]
def names : List Str := names0 ++ names1 ++ names2 ++ names3 ++ names4 ++ names5 ++ names6 ++ names7 ++ names8
end K01
set_option maxHeartbeats 0
namespace K01
open PySem PySem.Spec PyProof.Rows L2 Z
theorem run1 (w : World) : (HandSHeadRun.wholeF (fun p => HandSHeadRun.stepQ (HandSHeadRun.denQ HandSHeadRun.tabQ) p w) HandSHeadRun.fenceQ 60000 R.prog).map (fun x => HandSHeadRun.looksF R.prog x.1.heap x.2.abs) = some true := by
  kernel_rfl
theorem run2 (w : World) : (HandSHeadRun.wholeF (fun p => HandSHeadRun.stepQ (HandSHeadRun.denQ HandSHeadRun.tabQ) p w) HandSHeadRun.fenceQ 60000 R.prog).map (fun x => HandSHeadRun.seenQ (PySem.W.view R.prog [0, 26, 27, 28, 29, 77]) names (importedModules R.prog.main.body) (fun s => PySem.W.xlAt (PySem.W.view R.prog [0, 26, 27, 28, 29, 77]) [] s && PySem.W.recOk R.toRowW.records s) x.2.abs) = some (PySem.W.openGood (PySem.W.view R.prog [0, 26, 27, 28, 29, 77]) names) := by
  kernel_rfl
theorem run3_0 (w : World) : (HandSHeadRun.wholeF (fun p => HandSHeadRun.stepQ (HandSHeadRun.denQ HandSHeadRun.tabQ) p w) HandSHeadRun.fenceQ 60000 R.prog).map (fun x => obsRT 1000 faP0 fnP0 (HandSHeadRun.getT x.2)) = some (He.valD fnP0) := by
  kernel_rfl
theorem run3_1 (w : World) : (HandSHeadRun.wholeF (fun p => HandSHeadRun.stepQ (HandSHeadRun.denQ HandSHeadRun.tabQ) p w) HandSHeadRun.fenceQ 60000 R.prog).map (fun x => obsRT 1000 faP1 fnP1 (HandSHeadRun.getT x.2)) = some (He.valD fnP1) := by
  kernel_rfl
theorem run3_2 (w : World) : (HandSHeadRun.wholeF (fun p => HandSHeadRun.stepQ (HandSHeadRun.denQ HandSHeadRun.tabQ) p w) HandSHeadRun.fenceQ 60000 R.prog).map (fun x => obsRT 1000 faP2 fnP2 (HandSHeadRun.getT x.2)) = some (He.valD fnP2) := by
  kernel_rfl
theorem run3 (w : World) : (HandSHeadRun.wholeF (fun p => HandSHeadRun.stepQ (HandSHeadRun.denQ HandSHeadRun.tabQ) p w) HandSHeadRun.fenceQ 60000 R.prog).map (fun x => ob x.2) = some (hk.val w) := obs_catT (obs_catT (run3_0 w) (run3_1 w)) (run3_2 w)
theorem run (w : World) : HandSHeadRun.RunEqI R (PySem.W.view R.prog [0, 26, 27, 28, 29, 77]) hk ob 60000 names w := map3 (run1 w) (run2 w) (run3 w)
end K01
set_option maxHeartbeats 4000000
namespace K01
open PySem PySem.Spec PyProof.Rows L2 Z
abbrev FnP (K : PySem.W.Frag) (x : Str) (st : Stmt) (f : Addr) (fd : FuncData) : Prop := FunD K x x (defArgs st) (defBody st) (defScope st) [] [] f fd
/-- the built-in names that are still their own -/
structure Bt (mg : Str → Option Value) : Prop where
  int : mg "int" = none
  len : mg "len" = none
  list : mg "list" = none
section
variable {P : Program} {w : World} {K : PySem.W.Frag} {mg : Str → Option Value} {base : Heap}
theorem sc_law_pen : FnScope ["_law_script"] ["_law_script"] (defScope s_law_pen) := ⟨rfl, rfl, rfl, by decide +kernel, rfl, by decide +kernel, by decide +kernel⟩
theorem ok_pen {f : Addr} {fd : FuncData} (F : FnP K "_law_pen" s_law_pen f fd) (T : Bt mg) : FnOk P w K mg base CX0 1 f fd ["_law_script"] (spPen K) := by
  refine F.ok sc_law_pen (fun vs H Q E h => ?_) (fun cdv A outer s H vs Q E hr h => ?_)
  · obtain ⟨a, ns, rfl, _⟩ := h
    rfl
  · obtain ⟨a, ns, rfl, hS, hl, k⟩ := h
    have hu := hu_of hr
    refine ⟨_, PSs.nox (pss_one (ps_ret (pe_disp (pps_cons pe_str (pe_callTy call_list_of (by rfl) T.list (by decide +kernel) (pa_cons (pe_slice sl_list (pv 0) po_none (po_some pe_int)) pa_nil)) (pps_cons pe_str pe_int (pps_cons pe_str pe_int pps_nil))) (by rfl) (by rfl) (fun z => by cases z) (by decide)))), ?_⟩
    intro p hp
    refine ⟨_, rfl, _, rfl, a, ns.map V.int, rfl, ?_, fun q hq => ⟨q, _, rfl, .inl (SqL.of upd_same), fun l hl2 => ?_⟩⟩
    · exact Same.seq (Same.new _ (Same.refl H) hp) hS
    have npq : p ≠ q := fun z => by
      rw [← z, upd_same] at hq
      cases hq
    have npl : p ≠ l := fun z => by
      rw [← z, upd_ne npq, upd_same] at hl2
      cases hl2
    refine ⟨(by rw [upd_ne npl, upd_ne npq, upd_same]), penK l 0 0, rfl, (by show 3 ≤ 15; decide), ?_⟩
    have em : mergeK [] (penK l 0 0) = penK l 0 0 := by
      show putK (putK (putK [] (Sum.inr "cells" : Key) (.ref l)) (Sum.inr "at" : Key) (.int 0)) (Sum.inr "left" : Key) (.int 0) = penK l 0 0
      have e1 : putK ([] : List (Key × V)) (Sum.inr "cells" : Key) (.ref l) = [((Sum.inr "cells" : Key), V.ref l)] := putK_new (kvs := []) _ rfl
      have e2 : putK [((Sum.inr "cells" : Key), V.ref l)] (Sum.inr "at" : Key) (.int 0) = [((Sum.inr "cells" : Key), V.ref l), (Sum.inr "at", V.int 0)] := putK_new _ (by
        rw [valV_neg (key_ne ca_)]
        rfl)
      have e3 : putK [((Sum.inr "cells" : Key), V.ref l), (Sum.inr "at", V.int 0)] (Sum.inr "left" : Key) (.int 0) = penK l 0 0 := putK_new _ (by
        rw [valV_neg (key_ne cl_), valV_neg (key_ne al_)]
        rfl)
      rw [e1, e2, e3]
    rw [em]
    have hc : (cutV (ns.map V.int) none (some 63)) = (ns.map V.int) := by
      unfold cutV
      have e1 : HT.sIx (ns.map V.int).length 0 none = 0 := HT.sIx_none _ _
      have e2 : HT.sIx (ns.map V.int).length (ns.map V.int).length (some 63) = min 63 (ns.map V.int).length := HT.sIx_nat _ _ 63
      rw [e1, e2, List.drop_zero, List.length_map, Nat.sub_zero, Nat.min_eq_right hl, ← List.length_map (f := V.int), List.take_length]
    rw [hc]
    refine k _ p (fun b o e => ?_) hp ⟨l, ns, 0, 0, upd_same, by rw [upd_ne npl.symm, upd_same], hl, Int.le_refl 0, Int.le_refl 0, Int.le_refl 0⟩
    have nbp : b ≠ p := ne_of_none e hp
    have nbq : b ≠ q := fun z => by
      rw [← z, upd_ne nbp] at hq
      rw [hq] at e
      cases e
    have nbl : b ≠ l := fun z => by
      rw [← z, upd_ne nbq, upd_ne nbp] at hl2
      rw [hl2] at e
      cases e
    rw [upd_ne nbp, upd_ne nbl, upd_ne nbq, upd_ne nbp]
    exact e
theorem sc_law_draw : FnScope ["_law_pen_here", "_law_many", "_law_digit", "_law_spot", "_law_cell", "_law_mixed"] ["_law_pen_here", "_law_many"] (defScope s_law_draw) := ⟨rfl, rfl, rfl, by decide +kernel, rfl, by decide +kernel, by decide +kernel⟩
theorem sc_law_pick : FnScope ["_law_pen_here", "_law_some"] ["_law_pen_here", "_law_some"] (defScope s_law_pick) := ⟨rfl, rfl, rfl, by decide +kernel, rfl, by decide +kernel, by decide +kernel⟩
end
end K01
set_option maxHeartbeats 4000000
namespace Z
open PySem PySem.Spec PyProof.Rows L2
mutual
inductive DT (H : Hp) : V → PyData → Prop
  | non : DT H .non .none
  | bl (b : Bool) : DT H (.bl b) (.bool b)
  | int (i : Int) : DT H (.int i) (.int i)
  | str (x : Str) : DT H (.str x) (.str x)
  | tup {a : Addr} {xs : List V} {ds : List PyData} : H a = some (.tup xs) → DTs H xs ds → DT H (.ref a) (.tuple ds)
inductive DTs (H : Hp) : List V → List PyData → Prop
  | nil : DTs H [] []
  | cons {v : V} {vs : List V} {d : PyData} {ds : List PyData} : DT H v d → DTs H vs ds → DTs H (v :: vs) (d :: ds)
end
/-- tuples stand -/
def TSame (H H' : Hp) : Prop := ∀ a xs, H a = some (.tup xs) → H' a = some (.tup xs)
section
variable {H H1 H2 H' : Hp} {D p : Addr} {o u : HO}
theorem TSame.refl (H : Hp) : TSame H H := fun _ _ e => e
theorem TSame.trans (a : TSame H H1) (b : TSame H1 H2) : TSame H H2 := fun c xs e => b c xs (a c xs e)
theorem TSame.of (s : Same H H') : TSame H H' := fun a xs e => s a _ e
theorem TSame.keepO (e : H p = some o) (n : ∀ xs, o ≠ .tup xs) (k : Keep p H H') : TSame H H' := fun a xs ea => k a _ (fun z => by
  rw [z, e] at ea
  exact n xs (Option.some.inj ea)) ea
theorem TSame.keep {t : Nat} (h : Pen H p t) (k : Keep p H H') : TSame H H' := by
  obtain ⟨c, ns, a, l, e, _⟩ := h
  exact TSame.keepO e (fun _ z => by cases z) k
theorem TSame.updO (e : H D = some o) (n : ∀ xs, o ≠ .tup xs) : TSame H (upd H D u) := TSame.keepO e n fun b w nb eb => by
  rw [upd_ne nb]
  exact eb
theorem TSame.updL {xs : List V} (e : H D = some (.lst xs)) : TSame H (upd H D u) := TSame.updO e fun _ z => by cases z
theorem TSame.new (n : H D = none) : TSame H (upd H D u) := TSame.of (Same.new _ (Same.refl H) n)
end
mutual
theorem DT.mono {H H' : Hp} (s : TSame H H') : ∀ (d : PyData) {v : V}, DT H v d → DT H' v d
  | .none, _, h => by cases h; exact .non
  | .bool b, _, h => by cases h; exact .bl b
  | .int i, _, h => by cases h; exact .int i
  | .str x, _, h => by cases h; exact .str x
  | .list ds, _, h => by cases h
  | .tuple ds, _, h => by
    cases h with
    | tup e r => exact .tup (s _ _ e) (DTs.mono s ds r)
  | .dict _, _, h => by cases h
theorem DTs.mono {H H' : Hp} (s : TSame H H') : ∀ (ds : List PyData) {vs : List V}, DTs H vs ds → DTs H' vs ds
  | [], _, h => by cases h; exact .nil
  | d :: ds, _, h => by
    cases h with
    | cons a b => exact .cons (DT.mono s d a) (DTs.mono s ds b)
end
mutual
theorem DT.dp {K : PySem.W.Frag} {H : Hp} : ∀ (d : PyData) {v : V}, DT H v d → Dp K H v d
  | .none, _, h => by cases h; exact .non
  | .bool b, _, h => by cases h; exact .bl b
  | .int i, _, h => by cases h; exact .int i
  | .str x, _, h => by cases h; exact .str x
  | .list ds, _, h => by cases h
  | .tuple ds, _, h => by
    cases h with
    | tup e r => exact .tup (SqT.of e) (DTs.dp ds r)
  | .dict _, _, h => by cases h
theorem DTs.dp {K : PySem.W.Frag} {H : Hp} : ∀ (ds : List PyData) {vs : List V}, DTs H vs ds → DpAll K H vs ds
  | [], _, h => by cases h; exact .nil
  | d :: ds, _, h => by
    cases h with
    | cons a b => exact .cons (DT.dp d a) (DTs.dp ds b)
end
section
variable {H H' : Hp} {v : V} {vs : List V}
theorem DT.to {d : PyData} (h : DT H v d) (s : TSame H H') : DT H' v d := DT.mono s d h
theorem DTs.to {ds : List PyData} (h : DTs H vs ds) (s : TSame H H') : DTs H' vs ds := DTs.mono s ds h
theorem DT.same {d : PyData} (h : DT H v d) (s : Same H H') (_ : PyData := .none) : DT H' v d := h.to (.of s)
theorem DT.keep {p : Addr} {t : Nat} {d : PyData} (h : DT H v d) (hp : Pen H p t) (k : Keep p H H') : DT H' v d := h.to (.keep hp k)
theorem DTs.keep {p : Addr} {t : Nat} {ds : List PyData} (h : DTs H vs ds) (hp : Pen H p t) (k : Keep p H H') : DTs H' vs ds := h.to (.keep hp k)
theorem DTs.len : ∀ {ds : List PyData} {vs : List V}, DTs H vs ds → vs.length = ds.length
  | [], _, h => by cases h; rfl
  | d :: ds, _, h => by
    cases h with
    | cons a b => rw [List.length_cons, List.length_cons, DTs.len b]
theorem DTs.get : ∀ {ds : List PyData} {ws : List V} (i : Nat) (d : PyData), DTs H ws ds → ds[i]? = some d → ∃ v, ws[i]? = some v ∧ DT H v d
  | [], _, _, _, _, e => by cases e
  | _ :: _, _, 0, d', h, e => by
    cases h with
    | cons a b =>
      cases (Option.some.inj e)
      exact ⟨_, rfl, a⟩
  | _ :: ds, _, i + 1, d', h, e => by
    cases h with
    | cons a b => exact DTs.get i d' b (show ds[i]? = some d' from e)
theorem DTs.app : ∀ {ds es : List PyData} {vs ws : List V}, DTs H vs ds → DTs H ws es → DTs H (vs ++ ws) (ds ++ es)
  | [], _, _, _, h, k => by cases h; exact k
  | d :: ds, _, _, _, h, k => by
    cases h with
    | cons a b => exact .cons a (DTs.app b k)
theorem DTs.one {d : PyData} (h : DT H v d) : DTs H [v] [d] := .cons h .nil
theorem DTs.snoc {α : Type} {f : α → PyData} {as : List α} {a : α} (h : DTs H vs (as.map f)) (k : DT H v (f a)) : DTs H (vs ++ [v]) ((as ++ [a]).map f) := by
  rw [List.map_append]
  exact h.app (.one k)
end
def imm : HO → Bool
  | .tup _ => true
  | .ins _ _ _ => true
  | .frz _ (.tup _) => true
  | _ => false
def MS (H H' : Hp) : Prop := ∀ a u, H a = some u → imm u = true → H' a = some u
section
variable {H H1 H2 H' : Hp} {D p : Addr} {o u : HO}
theorem MS.refl (H : Hp) : MS H H := fun _ _ e _ => e
theorem MS.trans (a : MS H H1) (b : MS H1 H2) : MS H H2 := fun c u e i => b c u (a c u e i) i
theorem MS.of (s : Same H H') : MS H H' := fun a u e _ => s a u e
theorem MS.t (s : MS H H') : TSame H H' := fun a xs e => s a _ e rfl
theorem MS.keepO (e : H p = some o) (n : imm o = false) (k : Keep p H H') : MS H H' := fun a w ea i => k a w (fun z => by
  rw [z, e] at ea
  cases ea
  rw [n] at i
  cases i) ea
theorem MS.keep {t : Nat} (h : Pen H p t) (k : Keep p H H') : MS H H' := by
  obtain ⟨c, ns, a, l, e, _⟩ := h
  exact MS.keepO e rfl k
theorem MS.updO (e : H D = some o) (n : imm o = false) : MS H (upd H D u) := MS.keepO e n fun b w nb eb => by
  rw [upd_ne nb]
  exact eb
theorem MS.updL {xs : List V} (e : H D = some (.lst xs)) : MS H (upd H D u) := MS.updO e rfl
theorem MS.new (n : H D = none) : MS H (upd H D u) := MS.of (Same.new _ (Same.refl H) n)
theorem MS.sqT {K : PySem.W.Frag} {a : Addr} {xs : List V} (s : MS H H') (h : SqT K H a xs) : SqT K H' a xs := h.imp (fun r => r.imp (fun e => s _ _ e rfl) fun ⟨o, e⟩ => ⟨o, s _ _ e rfl⟩) id
end
end Z
namespace ZA
structure Aut where
  w : Nat
  rows : List (List Nat)
  ends : List Bool
namespace Aut
def n (A : Aut) : Nat := A.rows.length
/-- where the letter c leads from s -/
def to (A : Aut) (s c : Nat) : Nat := (A.rows.getD s []).getD c 0
def endAt (A : Aut) (s : Nat) : Bool := A.ends.getD s false
/-- the letters are taken modulo the width -/
def run (A : Aut) : Nat → List Nat → Nat
  | s, [] => s
  | s, c :: u => A.run (A.to s (c % A.w)) u
def lang (A : Aut) (s : Nat) (u : List Nat) : Bool := A.endAt (A.run s u)
structure Ok (A : Aut) : Prop where
  w1 : 1 ≤ A.w
  ends : A.ends.length = A.rows.length
  wide : ∀ (s : Nat) (r : List Nat), A.rows[s]? = some r → r.length = A.w
  inn : ∀ (s : Nat) (r : List Nat) (t : Nat), A.rows[s]? = some r → t ∈ r → t < A.rows.length
end Aut
/-- behind a letter -/
def nxt (l : List Nat → Bool) (c : Nat) : List Nat → Bool := fun u => l (c :: u)
section
variable {A B : Aut} {s t c : Nat}
theorem to_at {r : List Nat} (e : A.rows[s]? = some r) (ec : r[c]? = some t) : A.to s c = t := by
  unfold Aut.to
  rw [show A.rows.getD s [] = r by rw [List.getD_eq_getElem?_getD, e]; rfl]
  rw [List.getD_eq_getElem?_getD, ec]
  rfl
theorem to_lt (h : A.Ok) (hs : s < A.n) (hc : c < A.w) : A.to s c < A.n := by
  have e : A.rows[s]? = some A.rows[s] := List.getElem?_eq_getElem hs
  have l := h.wide s _ e
  have hc' : c < A.rows[s].length := by omega
  rw [to_at e (List.getElem?_eq_getElem hc')]
  exact h.inn s _ _ e (List.getElem_mem hc')
theorem lang_nxt (h : A.Ok) (hc : c < A.w) : nxt (A.lang s) c = A.lang (A.to s c) := by
  funext u
  show A.endAt (A.run (A.to s (c % A.w)) u) = A.endAt (A.run (A.to s c) u)
  rw [Nat.mod_eq_of_lt hc]
/-- two states read the same words just if their ends are alike and so are those behind each letter -/
theorem lang_ext (hA : A.Ok) (hB : B.Ok) (hw : A.w = B.w) (h0 : A.endAt s = B.endAt t) (h1 : ∀ c, c < A.w → A.lang (A.to s c) = B.lang (B.to t c)) : A.lang s = B.lang t := by
  funext u
  cases u with
  | nil => exact h0
  | cons c u =>
    have hc : c % A.w < A.w := Nat.mod_lt _ hA.w1
    have := congrFun (h1 _ hc) u
    show A.endAt (A.run (A.to s (c % A.w)) u) = B.endAt (B.run (B.to t (c % B.w)) u)
    rw [← hw]
    exact this
theorem lang_end (e : A.lang s = B.lang t) : A.endAt s = B.endAt t := congrFun e []
theorem lang_to (hA : A.Ok) (hB : B.Ok) (hw : A.w = B.w) (e : A.lang s = B.lang t) (hc : c < A.w) : A.lang (A.to s c) = B.lang (B.to t c) := by
  rw [← lang_nxt hA hc, ← lang_nxt hB (hw ▸ hc), e]
/-- marks under which like-marked states have like ends, and like-marked successors: like-marked states read the same -/
theorem marks_lang {α : Type} {m : Nat → α} (h : A.Ok) (h0 : ∀ s t, s < A.n → t < A.n → m s = m t → A.endAt s = A.endAt t) (h1 : ∀ s t c, s < A.n → t < A.n → c < A.w → m s = m t → m (A.to s c) = m (A.to t c)) :
    ∀ (u : List Nat) (s t : Nat), s < A.n → t < A.n → m s = m t → A.lang s u = A.lang t u
  | [], s, t, hs, ht, e => h0 s t hs ht e
  | c :: u, s, t, hs, ht, e => by
    have hc : c % A.w < A.w := Nat.mod_lt _ h.w1
    exact marks_lang h h0 h1 u _ _ (to_lt h hs hc) (to_lt h ht hc) (h1 s t _ hs ht hc e)
end
theorem nodup_le {α : Type} [DecidableEq α] : ∀ {l m : List α}, l.Nodup → (∀ x ∈ l, x ∈ m) → l.length ≤ m.length
  | [], _, _, _ => Nat.zero_le _
  | x :: l, m, h, k => by
    have hx : x ∈ m := k x (List.mem_cons_self ..)
    have hn : x ∉ l := (List.nodup_cons.mp h).1
    have q := nodup_le (l := l) (m := m.erase x) (List.nodup_cons.mp h).2 fun y hy => by
      have hy' := k y (List.mem_cons_of_mem _ hy)
      have ne : y ≠ x := fun z => hn (z ▸ hy)
      exact (List.mem_erase_of_ne ne).mpr hy'
    have e := List.length_erase_of_mem hx
    have p : 0 < m.length := List.length_pos_of_mem hx
    rw [List.length_cons]
    omega
/-- g tells more than f, and there are no more kinds of g than of f: then g tells no more -/
theorem kinds_same {α β : Type} [DecidableEq α] [DecidableEq β] {n : Nat} {f : Nat → α} {g : Nat → β} {F : List α} {G : List β} (hF : F.Nodup) (hfF : ∀ x ∈ F, ∃ s, s < n ∧ f s = x) (hgG : ∀ s, s < n → g s ∈ G)
    (fine : ∀ s t, s < n → t < n → g s = g t → f s = f t) (hl : G.length ≤ F.length) : ∀ s t, s < n → t < n → f s = f t → g s = g t := by
  intro s t hs ht e
  by_cases ne : g s = g t
  · exact ne
  exfalso
  have hex : ∀ k : β, ∃ x : α, ∀ u, u < n → g u = k → f u = x := fun k => by
    by_cases hk : ∃ u, u < n ∧ g u = k
    · obtain ⟨u, hu, eu⟩ := hk
      exact ⟨f u, fun v hv ev => fine v u hv hu (ev.trans eu.symm)⟩
    · exact ⟨f s, fun v hv ev => absurd ⟨v, hv, ev⟩ hk⟩
  let φ : β → α := fun k => Classical.choose (hex k)
  have hφ : ∀ u, u < n → f u = φ (g u) := fun u hu => Classical.choose_spec (hex (g u)) u hu rfl
  have hle := nodup_le (l := F) (m := (G.erase (g t)).map φ) hF fun x hx => by
    obtain ⟨u, hu, rfl⟩ := hfF x hx
    by_cases q : g u = g t
    · refine List.mem_map.mpr ⟨g s, (List.mem_erase_of_ne ne).mpr (hgG s hs), ?_⟩
      rw [← hφ s hs, e]
      exact (fine u t hu ht q).symm
    · exact List.mem_map.mpr ⟨g u, (List.mem_erase_of_ne q).mpr (hgG u hu), (hφ u hu).symm⟩
  rw [List.length_map, List.length_erase_of_mem (hgG t ht)] at hle
  have := List.length_pos_of_mem (hgG t ht)
  omega
/-- entries of a row, b numbers known ahead of it, b' behind it -/
inductive OrdR : Nat → List Nat → Nat → Prop
  | nil (b : Nat) : OrdR b [] b
  | old {b e b' : Nat} {es : List Nat} : e < b → OrdR b es b' → OrdR b (e :: es) b'
  | new {b b' : Nat} {es : List Nat} : OrdR (b + 1) es b' → OrdR b (b :: es) b'
theorem OrdR.le : ∀ {b b' : Nat} {es : List Nat}, OrdR b es b' → b ≤ b'
  | _, _, _, .nil _ => Nat.le_refl _
  | _, _, _, .old _ h => h.le
  | _, _, _, .new h => Nat.le_trans (Nat.le_succ _) h.le
theorem OrdR.snoc_old : ∀ {b b' : Nat} {es : List Nat} {e : Nat}, OrdR b es b' → e < b' → OrdR b (es ++ [e]) b'
  | _, _, _, _, .nil _, h => .old h (.nil _)
  | _, _, _, _, .old q r, h => .old q (r.snoc_old h)
  | _, _, _, _, .new r, h => .new (r.snoc_old h)
theorem OrdR.snoc_new : ∀ {b b' : Nat} {es : List Nat}, OrdR b es b' → OrdR b (es ++ [b']) (b' + 1)
  | _, _, _, .nil _ => .new (.nil _)
  | _, _, _, .old q r => .old q r.snoc_new
  | _, _, _, .new r => .new r.snoc_new
inductive Num : Nat → Nat → List (List Nat) → Nat → Prop
  | nil (i b : Nat) : Num i b [] b
  | cons {i b b1 b2 : Nat} {r : List Nat} {rs : List (List Nat)} : i < b → OrdR b r b1 → Num (i + 1) b1 rs b2 → Num i b (r :: rs) b2
theorem Num.le : ∀ {i b b' : Nat} {rs : List (List Nat)}, Num i b rs b' → b ≤ b'
  | _, _, _, _, .nil _ _ => Nat.le_refl _
  | _, _, _, _, .cons _ h r => Nat.le_trans h.le r.le
theorem Num.snoc : ∀ {i b b1 b2 : Nat} {r : List Nat} {rs : List (List Nat)}, Num i b rs b1 → i + rs.length < b1 → OrdR b1 r b2 → Num i b (rs ++ [r]) b2
  | _, _, _, _, _, [], .nil _ _, h, o => .cons h o (.nil _ _)
  | _, _, _, _, _, _ :: _, .cons q p t, h, o => .cons q p (t.snoc (by rw [List.length_cons] at h; omega) o)
section
variable {β : Type} {F : Nat → β} {g g' : Nat → β} {n n' : Nat}
theorem row_uni (hg : ∀ i j, i < n → j < n → g i = g j → i = j) (hg' : ∀ i j, i < n' → j < n' → g' i = g' j → i = j) : ∀ {r r' : List Nat} {c b b1 b1' : Nat}, OrdR b r b1 → OrdR b r' b1' → r.length = r'.length → b1 ≤ n → b1' ≤ n' →
    (∀ (k e : Nat), r[k]? = some e → F (c + k) = g e) → (∀ (k e : Nat), r'[k]? = some e → F (c + k) = g' e) → (∀ j, j < b → g j = g' j) → r = r' ∧ b1 = b1' ∧ ∀ j, j < b1 → g j = g' j
  | [], [], _, _, _, _, .nil _, .nil _, _, _, _, _, _, h => ⟨rfl, rfl, h⟩
  | [], _ :: _, _, _, _, _, _, _, l, _, _, _, _, _ => by cases l
  | _ :: _, [], _, _, _, _, _, _, l, _, _, _, _, _ => by cases l
  | e :: r, e' :: r', c, b, b1, b1', o, o', l, l1, l2, f, f', h => by
    have fe : F c = g e := f 0 e rfl
    have fe' : F c = g' e' := f' 0 e' rfl
    have fr : ∀ (k q : Nat), r[k]? = some q → F (c + 1 + k) = g q := fun k q hk => by
      have := f (k + 1) q hk
      rw [show c + (k + 1) = c + 1 + k by omega] at this
      exact this
    have fr' : ∀ (k q : Nat), r'[k]? = some q → F (c + 1 + k) = g' q := fun k q hk => by
      have := f' (k + 1) q hk
      rw [show c + (k + 1) = c + 1 + k by omega] at this
      exact this
    have lr : r.length = r'.length := by
      rw [List.length_cons, List.length_cons] at l
      omega
    cases o with
    | old he o =>
      cases o' with
      | old he' o' =>
        have bn := o.le
        have : e = e' := hg e e' (by omega) (by omega) (by rw [h e' he', ← fe, ← fe'])
        subst this
        obtain ⟨q1, q2, q3⟩ := row_uni hg hg' o o' lr l1 l2 fr fr' h
        exact ⟨by rw [q1], q2, q3⟩
      | new o' =>
        have bn := o'.le
        have : e' = e := hg' e' e (by omega) (by omega) (by rw [← fe', fe, h e he])
        omega
    | new o =>
      cases o' with
      | old he' o' =>
        have bn := o.le
        have : e = e' := hg e e' (by omega) (by omega) (by rw [← fe, fe', h e' he'])
        omega
      | new o' =>
        obtain ⟨q1, q2, q3⟩ := row_uni hg hg' o o' lr l1 l2 fr fr' fun j hj => by
          rcases Nat.lt_or_ge j e with q | q
          · exact h j q
          · obtain rfl : j = e := by omega
            rw [← fe, fe']
        exact ⟨by rw [q1], q2, q3⟩
/-- the numbering is told by what is told of the states: nx s c is what is behind -/
theorem num_uni {nx : β → Nat → β} {w : Nat} (hg : ∀ i j, i < n → j < n → g i = g j → i = j) (hg' : ∀ i j, i < n' → j < n' → g' i = g' j → i = j) : ∀ (R R' : List (List Nat)) (i b m m' : Nat), Num i b R m → Num i b R' m' → m = n → m' = n' → i + R.length = n → i + R'.length = n' →
    (∀ (k : Nat) (r : List Nat), R[k]? = some r → r.length = w ∧ ∀ (c e : Nat), r[c]? = some e → nx (g (i + k)) c = g e) → (∀ (k : Nat) (r : List Nat), R'[k]? = some r → r.length = w ∧ ∀ (c e : Nat), r[c]? = some e → nx (g' (i + k)) c = g' e) →
    (∀ j, j < b → g j = g' j) → R = R' ∧ n = n' ∧ ∀ j, j < n → g j = g' j := by
  intro R
  induction R with
  | nil =>
    intro R' i b m m' p q em em' l l' f f' h
    cases p
    cases q with
    | nil => exact ⟨rfl, em.symm.trans em', fun j hj => h j (by omega)⟩
    | cons hi _ _ =>
      rw [List.length_nil] at l
      omega
  | cons r R ih =>
    intro R' i b m m' p q em em' l l' f f' h
    cases p with
    | cons hi o p =>
      cases q with
      | nil =>
        rw [List.length_nil] at l'
        omega
      | @cons _ _ _ _ r' R' _ o' q =>
        obtain ⟨w1, k1⟩ := f 0 r rfl
        obtain ⟨w2, k2⟩ := f' 0 r' rfl
        have gi : g i = g' i := h i hi
        obtain ⟨e1, e2, e3⟩ := row_uni (F := fun c => nx (g i) c) (c := 0) hg hg' o o' (w1.trans w2.symm) (by have := p.le; omega) (by have := q.le; omega) (fun k e hk => by
          rw [Nat.zero_add]
          exact k1 k e hk) (fun k e hk => by
          rw [Nat.zero_add, gi]
          exact k2 k e hk) h
        subst e1 e2
        have sh : ∀ k, i + (k + 1) = i + 1 + k := fun k => by omega
        obtain ⟨z1, z2, z3⟩ := ih R' (i + 1) _ m m' p q em em' (by rw [List.length_cons] at l; omega) (by rw [List.length_cons] at l'; omega) (fun k r hk => by
          have := f (k + 1) r hk
          rw [sh] at this
          exact this) (fun k r hk => by
          have := f' (k + 1) r hk
          rw [sh] at this
          exact this) e3
        exact ⟨by rw [z1], z2, z3⟩
end
/-- M tells A's state 0, its states in the order in which they are met, met among A's -/
structure Told (A M : Aut) (met : List Nat) : Prop where
  wd : M.w = A.w
  len : M.rows.length = met.length
  elen : M.ends.length = met.length
  num : Num 0 1 M.rows met.length
  zero : met[0]? = some 0
  inn : ∀ (i s : Nat), met[i]? = some s → s < A.n
  ends : ∀ (i s : Nat), met[i]? = some s → M.ends[i]? = some (A.endAt s)
  row : ∀ (i s : Nat) (r : List Nat), met[i]? = some s → M.rows[i]? = some r → r.length = A.w ∧ ∀ (c e : Nat), r[c]? = some e → ∃ t, met[e]? = some t ∧ A.lang (A.to s c) = A.lang t
  apart : ∀ (i j s t : Nat), met[i]? = some s → met[j]? = some t → A.lang s = A.lang t → i = j
theorem Told.ok {A M : Aut} {met : List Nat} (h : Told A M met) (hA : A.Ok) : M.Ok := by
  refine ⟨by rw [h.wd]; exact hA.w1, by rw [h.elen, h.len], fun i r hr => ?_, fun i r e hr he => ?_⟩
  · have hi : i < met.length := by rw [← h.len]; exact (List.getElem?_eq_some_iff.mp hr).1
    rw [h.wd]
    exact (h.row i _ r (List.getElem?_eq_getElem hi) hr).1
  · have hi : i < met.length := by rw [← h.len]; exact (List.getElem?_eq_some_iff.mp hr).1
    obtain ⟨c, hc⟩ := List.mem_iff_getElem?.mp he
    obtain ⟨t, ht, _⟩ := (h.row i _ r (List.getElem?_eq_getElem hi) hr).2 c e hc
    rw [h.len]
    exact (List.getElem?_eq_some_iff.mp ht).1
/-- its states read what A's do -/
theorem Told.lang {A M : Aut} {met : List Nat} (h : Told A M met) (hA : A.Ok) : ∀ (u : List Nat) (i s : Nat), met[i]? = some s → M.lang i u = A.lang s u
  | [], i, s, e => by
    show M.ends.getD i false = A.endAt s
    rw [List.getD_eq_getElem?_getD, h.ends i s e]
    rfl
  | c :: u, i, s, e => by
    have hc : c % A.w < A.w := Nat.mod_lt _ hA.w1
    have hi : i < M.rows.length := by rw [h.len]; exact (List.getElem?_eq_some_iff.mp e).1
    have er := List.getElem?_eq_getElem hi
    obtain ⟨wl, k⟩ := h.row i s _ e er
    have hc' : c % A.w < M.rows[i].length := by omega
    have ee := List.getElem?_eq_getElem hc'
    obtain ⟨t, ht, lt⟩ := k _ _ ee
    show M.lang (M.to i (c % M.w)) u = A.lang (A.to s (c % A.w)) u
    have et : M.to i (c % M.w) = M.rows[i][c % A.w] := by
      rw [h.wd]
      exact to_at er ee
    rw [et, lt]
    exact Told.lang h hA u _ t ht
/-- two machines that read the same are told by the same -/
theorem told_same {A B M N : Aut} {met met' : List Nat} (hA : A.Ok) (hB : B.Ok) (h : Told A M met) (h' : Told B N met') (hw : A.w = B.w) (e : A.lang 0 = B.lang 0) : M = N := by
  let g : Nat → List Nat → Bool := fun i => A.lang (met.getD i 0)
  let g' : Nat → List Nat → Bool := fun i => B.lang (met'.getD i 0)
  have gd : ∀ (i s : Nat), met[i]? = some s → g i = A.lang s := fun i s q => by
    show A.lang (met.getD i 0) = _
    rw [List.getD_eq_getElem?_getD, q]
    rfl
  have gd' : ∀ (i s : Nat), met'[i]? = some s → g' i = B.lang s := fun i s q => by
    show B.lang (met'.getD i 0) = _
    rw [List.getD_eq_getElem?_getD, q]
    rfl
  have key := num_uni (nx := nxt) (w := A.w) (g := g) (g' := g') (n := met.length) (n' := met'.length) (fun i j hi hj q => by
    have q1 := List.getElem?_eq_getElem hi
    have q2 := List.getElem?_eq_getElem hj
    rw [gd _ _ q1, gd _ _ q2] at q
    exact h.apart i j _ _ q1 q2 q) (fun i j hi hj q => by
    have q1 := List.getElem?_eq_getElem hi
    have q2 := List.getElem?_eq_getElem hj
    rw [gd' _ _ q1, gd' _ _ q2] at q
    exact h'.apart i j _ _ q1 q2 q) M.rows N.rows 0 1 _ _ h.num h'.num rfl rfl (by rw [Nat.zero_add, h.len]) (by rw [Nat.zero_add, h'.len]) (fun k r hk => by
    have hi : k < met.length := by rw [← h.len]; exact (List.getElem?_eq_some_iff.mp hk).1
    have q1 := List.getElem?_eq_getElem hi
    obtain ⟨wl, kk⟩ := h.row k _ r q1 hk
    refine ⟨wl, fun c e hc => ?_⟩
    obtain ⟨t, ht, lt⟩ := kk c e hc
    have hcw : c < A.w := by rw [← wl]; exact (List.getElem?_eq_some_iff.mp hc).1
    rw [Nat.zero_add, gd _ _ q1, gd _ _ ht, lang_nxt hA hcw, lt]) (fun k r hk => by
    have hi : k < met'.length := by rw [← h'.len]; exact (List.getElem?_eq_some_iff.mp hk).1
    have q1 := List.getElem?_eq_getElem hi
    obtain ⟨wl, kk⟩ := h'.row k _ r q1 hk
    refine ⟨wl.trans hw.symm, fun c e hc => ?_⟩
    obtain ⟨t, ht, lt⟩ := kk c e hc
    have hcw : c < B.w := by rw [← wl]; exact (List.getElem?_eq_some_iff.mp hc).1
    rw [Nat.zero_add, gd' _ _ q1, gd' _ _ ht, lang_nxt hB hcw, lt]) (fun j hj => by
    obtain rfl : j = 0 := by omega
    rw [gd 0 0 h.zero, gd' 0 0 h'.zero, e])
  obtain ⟨r1, r2, r3⟩ := key
  have ends : M.ends = N.ends := by
    refine List.ext_getElem? fun i => ?_
    rcases Nat.lt_or_ge i met.length with hi | hi
    · have q1 := List.getElem?_eq_getElem hi
      have hi' : i < met'.length := by omega
      have q2 := List.getElem?_eq_getElem hi'
      rw [h.ends i _ q1, h'.ends i _ q2]
      have := r3 i hi
      rw [gd _ _ q1, gd' _ _ q2] at this
      exact congrArg some (lang_end this)
    · rw [List.getElem?_eq_none (by rw [h.elen]; exact hi), List.getElem?_eq_none (by rw [h'.elen]; omega)]
  obtain ⟨mw, mr, me⟩ := M
  obtain ⟨nw, nr, ne⟩ := N
  have w1 : mw = nw := h.wd.trans (hw.trans h'.wd.symm)
  have r1 : mr = nr := r1
  have e1 : me = ne := ends
  subst w1 r1 e1
  rfl
theorem kinds_le {α β : Type} [DecidableEq α] [DecidableEq β] {n : Nat} {f : Nat → α} {g : Nat → β} {F : List α} {G : List β} (hF : F.Nodup) (hfF : ∀ x ∈ F, ∃ s, s < n ∧ f s = x) (hgG : ∀ s, s < n → g s ∈ G)
    (fine : ∀ s t, s < n → t < n → g s = g t → f s = f t) : F.length ≤ G.length := by
  cases F with
  | nil => exact Nat.zero_le _
  | cons x0 F =>
  obtain ⟨s0, h0, _⟩ := hfF x0 (List.mem_cons_self ..)
  have hex : ∀ k : β, ∃ x : α, ∀ u, u < n → g u = k → f u = x := fun k => by
    by_cases hk : ∃ u, u < n ∧ g u = k
    · obtain ⟨u, hu, eu⟩ := hk
      exact ⟨f u, fun v hv ev => fine v u hv hu (ev.trans eu.symm)⟩
    · exact ⟨f s0, fun v hv ev => absurd ⟨v, hv, ev⟩ hk⟩
  let φ : β → α := fun k => Classical.choose (hex k)
  have hφ : ∀ u, u < n → f u = φ (g u) := fun u hu => Classical.choose_spec (hex (g u)) u hu rfl
  have hle := nodup_le (l := x0 :: F) (m := G.map φ) hF fun x hx => by
    obtain ⟨u, hu, rfl⟩ := hfF x hx
    exact List.mem_map.mpr ⟨g u, hgG u hu, (hφ u hu).symm⟩
  rw [List.length_map] at hle
  exact hle
/-- marks that tell just what is read -/
def Marks {α : Type} (A : Aut) (m : Nat → α) : Prop := ∀ s t, s < A.n → t < A.n → (m s = m t ↔ A.lang s = A.lang t)
/-- marks that tell the ends, and no more than what is read -/
structure Rough {α : Type} (A : Aut) (m : Nat → α) : Prop where
  ends : ∀ s t, s < A.n → t < A.n → m s = m t → A.endAt s = A.endAt t
  keep : ∀ s t, s < A.n → t < A.n → A.lang s = A.lang t → m s = m t
/-- a state's mark and those behind it -/
def keyOf {α : Type} (A : Aut) (m : Nat → α) (s : Nat) : List α := m s :: (List.range A.w).map fun c => m (A.to s c)
section
variable {α : Type} {A : Aut} {m : Nat → α} {s t c : Nat}
theorem key_mark (e : keyOf A m s = keyOf A m t) : m s = m t := (List.cons.inj e).1
theorem key_to (e : keyOf A m s = keyOf A m t) (hc : c < A.w) : m (A.to s c) = m (A.to t c) := by
  have q := (List.cons.inj e).2
  have := congrArg (fun l => l[c]?) q
  simp only [List.getElem?_map, List.getElem?_range hc, Option.map_some] at this
  exact Option.some.inj this
theorem key_of (e0 : m s = m t) (e : ∀ c, c < A.w → m (A.to s c) = m (A.to t c)) : keyOf A m s = keyOf A m t := by
  unfold keyOf
  rw [e0]
  exact congrArg _ (List.map_congr_left fun c hc => e c (List.mem_range.mp hc))
/-- marks made of keys are as rough -/
theorem rough_step {β : Type} {k : Nat → β} (h : A.Ok) (r : Rough A m) (hk : ∀ s t, s < A.n → t < A.n → (k s = k t ↔ keyOf A m s = keyOf A m t)) : Rough A k :=
  ⟨fun s t hs ht e => r.ends s t hs ht (key_mark ((hk s t hs ht).mp e)), fun s t hs ht e => (hk s t hs ht).mpr (key_of (r.keep s t hs ht e) fun c hc => r.keep _ _ (to_lt h hs hc) (to_lt h ht hc) (lang_to h h rfl e hc))⟩
/-- the keys tell no more than the marks: the marks tell what is read -/
theorem rough_done (h : A.Ok) (r : Rough A m) (hk : ∀ s t, s < A.n → t < A.n → m s = m t → keyOf A m s = keyOf A m t) : Marks A m := fun s t hs ht =>
  ⟨fun e => funext fun u => marks_lang h r.ends (fun s t c hs ht hc e => key_to (hk s t hs ht e) hc) u s t hs ht e, r.keep s t hs ht⟩
theorem rough_count [DecidableEq α] {F : List α} {G : List (List α)} (h : A.Ok) (r : Rough A m) (hF : F.Nodup) (hfF : ∀ x ∈ F, ∃ s, s < A.n ∧ m s = x) (hG : ∀ s, s < A.n → keyOf A m s ∈ G) (hl : G.length ≤ F.length) : Marks A m :=
  rough_done h r (kinds_same (f := m) (g := keyOf A m) hF hfF hG (fun _ _ _ _ e => key_mark e) hl)
end
structure Part (A : Aut) (met : List Nat) (told : List (List Nat)) (row : List Nat) : Prop where
  zero : met[0]? = some 0
  inn : ∀ (i s : Nat), met[i]? = some s → s < A.n
  apart : ∀ (i j s t : Nat), met[i]? = some s → met[j]? = some t → A.lang s = A.lang t → i = j
  num : ∃ b, Num 0 1 told b ∧ OrdR b row met.length ∧ (row = [] ∨ told.length < b)
  rows : ∀ (i s : Nat) (r : List Nat), met[i]? = some s → told[i]? = some r → r.length = A.w ∧ ∀ (c e : Nat), r[c]? = some e → ∃ t, met[e]? = some t ∧ A.lang (A.to s c) = A.lang t
  rowc : ∀ (s c e : Nat), met[told.length]? = some s → row[c]? = some e → ∃ t, met[e]? = some t ∧ A.lang (A.to s c) = A.lang t
  few : told.length ≤ met.length
section
variable {A : Aut} {met : List Nat} {told : List (List Nat)} {row : List Nat}
theorem part_start (h : 0 < A.n) : Part A [0] [] [] where
  zero := rfl
  inn i s e := by
    cases i with
    | zero =>
      cases e
      exact h
    | succ i => cases e
  apart i j s t e1 e2 _ := by
    cases i with
    | zero =>
      cases j with
      | zero => rfl
      | succ j => cases e2
    | succ i => cases e1
  num := ⟨1, .nil _ _, .nil _, .inl rfl⟩
  rows i s r _ e := by cases e
  rowc s c e _ q := by cases q
  few := Nat.zero_le _
theorem Part.nodup (p : Part A met told row) : met.length ≤ A.n := by
  have : met.Nodup := by
    refine List.pairwise_iff_getElem.mpr fun i j hi hj hij e => ?_
    have := p.apart i j _ _ (List.getElem?_eq_getElem hi) (List.getElem?_eq_getElem hj) (by rw [e])
    omega
  have := nodup_le (l := met) (m := List.range A.n) this fun x hx => by
    obtain ⟨i, hi⟩ := List.mem_iff_getElem?.mp hx
    exact List.mem_range.mpr (p.inn i x hi)
  rw [List.length_range] at this
  exact this
/-- the next letter leads to a kind that is known -/
theorem Part.old {s e t : Nat} (p : Part A met told row) (hs : met[told.length]? = some s) (he : met[e]? = some t) (l : A.lang (A.to s row.length) = A.lang t) : Part A met told (row ++ [e]) := by
  obtain ⟨b, h1, h2, h3⟩ := p.num
  have hel : e < met.length := (List.getElem?_eq_some_iff.mp he).1
  have hb : told.length < b ∨ row ≠ [] := by
    rcases h3 with h3 | h3
    · subst h3
      cases h2
      exact .inl (List.getElem?_eq_some_iff.mp hs).1
    · exact .inl h3
  refine { zero := p.zero, inn := p.inn, apart := p.apart, num := ⟨b, h1, h2.snoc_old hel, .inr ?_⟩, rows := p.rows, rowc := fun s' c q hs' hq => ?_, few := p.few }
  · rcases h3 with h3 | h3
    · subst h3
      cases h2
      exact (List.getElem?_eq_some_iff.mp hs).1
    · exact h3
  · rw [hs] at hs'
    cases hs'
    rcases Nat.lt_or_ge c row.length with hc | hc
    · rw [List.getElem?_append_left hc] at hq
      exact p.rowc s c q hs hq
    · rw [List.getElem?_append_right hc] at hq
      cases h : c - row.length with
      | zero =>
        rw [h] at hq
        cases hq
        obtain rfl : c = row.length := by omega
        exact ⟨t, he, l⟩
      | succ k =>
        rw [h] at hq
        cases hq
/-- .. to a kind that is new -/
theorem Part.new {s : Nat} (p : Part A met told row) (hs : met[told.length]? = some s) (hn : A.to s row.length < A.n) (l : ∀ (i t : Nat), met[i]? = some t → A.lang (A.to s row.length) ≠ A.lang t) : Part A (met ++ [A.to s row.length]) told (row ++ [met.length]) := by
  obtain ⟨b, h1, h2, h3⟩ := p.num
  have up : ∀ (i t : Nat), met[i]? = some t → (met ++ [A.to s row.length])[i]? = some t := fun i t e => by
    rw [List.getElem?_append_left (List.getElem?_eq_some_iff.mp e).1]
    exact e
  have at_ : ∀ (i t : Nat), (met ++ [A.to s row.length])[i]? = some t → met[i]? = some t ∨ (i = met.length ∧ t = A.to s row.length) := fun i t e => by
    rcases Nat.lt_or_ge i met.length with hi | hi
    · rw [List.getElem?_append_left hi] at e
      exact .inl e
    · rw [List.getElem?_append_right hi] at e
      cases h : i - met.length with
      | zero =>
        rw [h] at e
        cases e
        exact .inr ⟨by omega, rfl⟩
      | succ k =>
        rw [h] at e
        cases e
  have tl : told.length < met.length := (List.getElem?_eq_some_iff.mp hs).1
  refine { zero := up _ _ p.zero, inn := fun i t e => ?_, apart := fun i j t u e1 e2 q => ?_, num := ⟨b, h1, ?_, .inr ?_⟩, rows := fun i t r e1 e2 => ?_, rowc := fun s' c q hs' hq => ?_, few := ?_ }
  · rcases at_ i t e with e | ⟨_, rfl⟩
    · exact p.inn i t e
    · exact hn
  · rcases at_ i t e1 with e1 | ⟨rfl, rfl⟩
    · rcases at_ j u e2 with e2 | ⟨rfl, rfl⟩
      · exact p.apart i j t u e1 e2 q
      · exact absurd q.symm (l i t e1)
    · rcases at_ j u e2 with e2 | ⟨rfl, rfl⟩
      · exact absurd q (l j u e2)
      · rfl
  · rw [List.length_append]
    exact h2.snoc_new
  · rcases h3 with h3 | h3
    · subst h3
      cases h2
      exact tl
    · exact h3
  · have hi : i < told.length := (List.getElem?_eq_some_iff.mp e2).1
    rcases at_ i t e1 with e1 | ⟨rfl, _⟩
    · obtain ⟨w, k⟩ := p.rows i t r e1 e2
      exact ⟨w, fun c e hc => by
        obtain ⟨v, hv, lv⟩ := k c e hc
        exact ⟨v, up _ _ hv, lv⟩⟩
    · omega
  · rw [up _ _ hs] at hs'
    cases hs'
    rcases Nat.lt_or_ge c row.length with hc | hc
    · rw [List.getElem?_append_left hc] at hq
      obtain ⟨v, hv, lv⟩ := p.rowc s c q hs hq
      exact ⟨v, up _ _ hv, lv⟩
    · rw [List.getElem?_append_right hc] at hq
      cases h : c - row.length with
      | zero =>
        rw [h] at hq
        cases hq
        obtain rfl : c = row.length := by omega
        refine ⟨A.to s row.length, ?_, rfl⟩
        rw [List.getElem?_append_right (Nat.le_refl _), Nat.sub_self]
        rfl
      | succ k =>
        rw [h] at hq
        cases hq
  · rw [List.length_append]
    exact Nat.le_trans p.few (Nat.le_add_right _ _)
/-- the row is whole -/
theorem Part.turn {s : Nat} (p : Part A met told row) (hs : met[told.length]? = some s) (hw : row.length = A.w) (w1 : 1 ≤ A.w) : Part A met (told ++ [row]) [] := by
  obtain ⟨b, h1, h2, h3⟩ := p.num
  have tb : told.length < b := by
    rcases h3 with h3 | h3
    · rw [h3] at hw
      rw [← hw] at w1
      exact absurd w1 (by decide)
    · exact h3
  refine { zero := p.zero, inn := p.inn, apart := p.apart, num := ⟨met.length, h1.snoc (by rw [Nat.zero_add]; exact tb) h2, .nil _, .inl rfl⟩, rows := fun i t r e1 e2 => ?_, rowc := (fun s c e _ q => by cases q), few := ?_ }
  · rcases Nat.lt_or_ge i told.length with hi | hi
    · rw [List.getElem?_append_left hi] at e2
      exact p.rows i t r e1 e2
    · rw [List.getElem?_append_right hi] at e2
      cases h : i - told.length with
      | zero =>
        rw [h] at e2
        cases e2
        obtain rfl : i = told.length := by omega
        rw [hs] at e1
        cases e1
        exact ⟨hw, fun c e hc => p.rowc s c e hs hc⟩
      | succ k =>
        rw [h] at e2
        cases e2
  · rw [List.length_append]
    exact (List.getElem?_eq_some_iff.mp hs).1
theorem Part.done (p : Part A met told []) (hl : told.length = met.length) : Told A ⟨A.w, told, met.map A.endAt⟩ met where
  wd := rfl
  len := hl
  elen := List.length_map ..
  num := by
    obtain ⟨b, h1, h2, _⟩ := p.num
    cases h2
    exact h1
  zero := p.zero
  inn := p.inn
  ends i s e := by
    show (met.map A.endAt)[i]? = _
    rw [List.getElem?_map, e]
    rfl
  row := p.rows
  apart := p.apart
end
end ZA
namespace ZA
structure Expl {σ : Type} (w : Nat) (fol : σ → Nat → σ) (first : σ) (met : List σ) (rows : List (List Nat)) : Prop where
  len : rows.length = met.length
  zero : met[0]? = some first
  row : ∀ (i : Nat) (s : σ) (r : List Nat), met[i]? = some s → rows[i]? = some r → r.length = w ∧ ∀ (c e : Nat), r[c]? = some e → met[e]? = some (fol s c)
def fold {σ : Type} (w : Nat) (fol : σ → Nat → σ) : σ → List Nat → σ
  | s, [] => s
  | s, c :: u => fold w fol (fol s (c % w)) u
section
variable {σ : Type} {w : Nat} {fol : σ → Nat → σ} {first : σ} {met : List σ} {rows : List (List Nat)} {isEnd : σ → Bool}
theorem Expl.ok (h : Expl w fol first met rows) (w1 : 1 ≤ w) : (⟨w, rows, met.map isEnd⟩ : Aut).Ok := by
  refine ⟨w1, by rw [List.length_map]; exact h.len.symm, fun i r hr => ?_, fun i r e hr he => ?_⟩
  · have hi : i < met.length := by rw [← h.len]; exact (List.getElem?_eq_some_iff.mp hr).1
    exact (h.row i _ r (List.getElem?_eq_getElem hi) hr).1
  · have hi : i < met.length := by rw [← h.len]; exact (List.getElem?_eq_some_iff.mp hr).1
    obtain ⟨c, hc⟩ := List.mem_iff_getElem?.mp he
    have q := (h.row i _ r (List.getElem?_eq_getElem hi) hr).2 c e hc
    show e < rows.length
    rw [h.len]
    exact (List.getElem?_eq_some_iff.mp q).1
theorem Expl.lang (h : Expl w fol first met rows) (w1 : 1 ≤ w) : ∀ (u : List Nat) (i : Nat) (s : σ), met[i]? = some s → (⟨w, rows, met.map isEnd⟩ : Aut).lang i u = isEnd (fold w fol s u)
  | [], i, s, e => by
    show (met.map isEnd).getD i false = isEnd s
    rw [List.getD_eq_getElem?_getD, List.getElem?_map, e]
    rfl
  | c :: u, i, s, e => by
    have hc : c % w < w := Nat.mod_lt _ w1
    have hi : i < rows.length := by rw [h.len]; exact (List.getElem?_eq_some_iff.mp e).1
    have er := List.getElem?_eq_getElem hi
    obtain ⟨wl, k⟩ := h.row i s _ e er
    have hc' : c % w < rows[i].length := by omega
    have ee := List.getElem?_eq_getElem hc'
    have et : (⟨w, rows, met.map isEnd⟩ : Aut).to i (c % w) = rows[i][c % w] := to_at (A := ⟨w, rows, met.map isEnd⟩) er ee
    show (⟨w, rows, met.map isEnd⟩ : Aut).lang ((⟨w, rows, met.map isEnd⟩ : Aut).to i (c % w)) u = isEnd (fold w fol (fol s (c % w)) u)
    rw [et]
    exact Expl.lang h w1 u _ _ (k _ _ ee)
end
/-- the sum of the factors whose digit in the letter is 1 -/
def dsum : List Int → Nat → Int
  | [], _ => 0
  | f :: fs, c => (if c % 2 = 1 then f else 0) + dsum fs (c / 2)
/-- .. of all letters, in order -/
def dsums (fs : List Int) : List Int := fs.foldl (fun told f => told ++ told.map (· + f)) [0]
theorem dsums_snoc (fs : List Int) (f : Int) : dsums (fs ++ [f]) = dsums fs ++ (dsums fs).map (· + f) := by
  unfold dsums
  rw [List.foldl_append]
  rfl
theorem dsum_snoc : ∀ (fs : List Int) (f : Int) (c : Nat), dsum (fs ++ [f]) c = dsum fs c + (if c / 2 ^ fs.length % 2 = 1 then f else 0)
  | [], f, c => by
    show (if c % 2 = 1 then f else 0) + 0 = 0 + _
    rw [List.length_nil, Nat.pow_zero, Nat.div_one, Int.add_zero, Int.zero_add]
  | g :: fs, f, c => by
    show (if c % 2 = 1 then g else 0) + dsum (fs ++ [f]) (c / 2) = ((if c % 2 = 1 then g else 0) + dsum fs (c / 2)) + _
    rw [dsum_snoc fs f (c / 2), List.length_cons, Nat.pow_succ', ← Nat.div_div_eq_div_mul, Int.add_assoc]
theorem dsum_lo : ∀ (fs : List Int) (c d : Nat), dsum fs (c + 2 ^ fs.length * d) = dsum fs c
  | [], c, d => rfl
  | f :: fs, c, d => by
    have e : c + 2 ^ (f :: fs).length * d = c + 2 * (2 ^ fs.length * d) := by
      rw [List.length_cons, Nat.pow_succ', Nat.mul_assoc]
    show (if (c + 2 ^ (f :: fs).length * d) % 2 = 1 then f else 0) + dsum fs ((c + 2 ^ (f :: fs).length * d) / 2) = (if c % 2 = 1 then f else 0) + dsum fs (c / 2)
    rw [e, Nat.add_mul_mod_self_left, Nat.add_mul_div_left _ _ (by decide : 0 < 2), dsum_lo fs]
theorem snoc_ind {α : Type} {P : List α → Prop} (h0 : P []) (h1 : ∀ l a, P l → P (l ++ [a])) (l : List α) : P l := by
  have q : ∀ m : List α, P m.reverse := fun m => by
    induction m with
    | nil => exact h0
    | cons a m ih =>
      rw [List.reverse_cons]
      exact h1 _ _ ih
  have := q l.reverse
  rw [List.reverse_reverse] at this
  exact this
theorem dsums_len : ∀ (fs : List Int), (dsums fs).length = 2 ^ fs.length := fun fs => by
  refine snoc_ind (P := fun fs => (dsums fs).length = 2 ^ fs.length) rfl (fun fs f ih => ?_) fs
  · rw [dsums_snoc, List.length_append, List.length_map, ih, List.length_append, List.length_singleton, Nat.pow_succ]
    omega
theorem dsums_at (fs : List Int) : ∀ (c : Nat), c < 2 ^ fs.length → (dsums fs)[c]? = some (dsum fs c) := by
  refine snoc_ind (P := fun fs => ∀ (c : Nat), c < 2 ^ fs.length → (dsums fs)[c]? = some (dsum fs c)) ?_ (fun fs f ih => ?_) fs
  · intro c hc
    have : c = 0 := by
      have : c < 1 := hc
      omega
    subst this
    rfl
  · intro c hc
    rw [List.length_append, List.length_singleton, Nat.pow_succ] at hc
    rw [dsums_snoc, dsum_snoc]
    have hp : 0 < 2 ^ fs.length := Nat.pos_of_ne_zero (by simp)
    rcases Nat.lt_or_ge c (2 ^ fs.length) with h | h
    · rw [List.getElem?_append_left (by rw [dsums_len]; exact h), ih c h, Nat.div_eq_of_lt h]
      simp
    · rw [List.getElem?_append_right (by rw [dsums_len]; exact h), dsums_len, List.getElem?_map, ih _ (by omega)]
      have e1 : c / 2 ^ fs.length = 1 := by
        have := Nat.div_add_mod c (2 ^ fs.length)
        have m := Nat.mod_lt c hp
        have l1 : 1 ≤ c / 2 ^ fs.length := (Nat.le_div_iff_mul_le hp).mpr (by omega)
        have l2 : c / 2 ^ fs.length < 2 := (Nat.div_lt_iff_lt_mul hp).mpr (by omega)
        omega
      have e2 : dsum fs c = dsum fs (c - 2 ^ fs.length) := by
        have := dsum_lo fs (c - 2 ^ fs.length) 1
        rw [Nat.mul_one, Nat.sub_add_cancel h] at this
        exact this
      rw [e1, e2]
      rfl
/-- what a word says: the sum of the numbers whose digits it tells, times the factors -/
def total (w : Nat) (fs : List Int) : List Nat → Int
  | [] => 0
  | c :: u => dsum fs (c % w) + 2 * total w fs u
/-- a sum's least and greatest digit -/
def lowS (fs : List Int) : Int := (fs.map fun f => if f < 0 then f else 0).foldr (· + ·) 0
def highS (fs : List Int) : Int := (fs.map fun f => if 0 < f then f else 0).foldr (· + ·) 0
theorem lowS_le : ∀ (fs : List Int), lowS fs ≤ 0
  | [] => Int.le_refl 0
  | f :: fs => by
    have := lowS_le fs
    show (if f < 0 then f else 0) + lowS fs ≤ 0
    split <;> omega
theorem highS_ge : ∀ (fs : List Int), 0 ≤ highS fs
  | [] => Int.le_refl 0
  | f :: fs => by
    have := highS_ge fs
    show 0 ≤ (if 0 < f then f else 0) + highS fs
    split <;> omega
theorem dsum_bd : ∀ (fs : List Int) (c : Nat), lowS fs ≤ dsum fs c ∧ dsum fs c ≤ highS fs
  | [], _ => ⟨Int.le_refl 0, Int.le_refl 0⟩
  | f :: fs, c => by
    have h := dsum_bd fs (c / 2)
    show (if f < 0 then f else 0) + lowS fs ≤ (if c % 2 = 1 then f else 0) + dsum fs (c / 2) ∧ (if c % 2 = 1 then f else 0) + dsum fs (c / 2) ≤ (if 0 < f then f else 0) + highS fs
    by_cases h1 : c % 2 = 1
    · rw [if_pos h1]
      constructor
      · split <;> omega
      · split <;> omega
    · rw [if_neg h1]
      constructor
      · split <;> omega
      · split <;> omega
theorem total_ge {w : Nat} {fs : List Int} (h : lowS fs = 0) : ∀ u, 0 ≤ total w fs u
  | [] => Int.le_refl 0
  | c :: u => by
    have h1 := (dsum_bd fs (c % w)).1
    have h2 := total_ge (w := w) h u
    show 0 ≤ dsum fs (c % w) + 2 * total w fs u
    omega
theorem total_le {w : Nat} {fs : List Int} (h : highS fs = 0) : ∀ u, total w fs u ≤ 0
  | [] => Int.le_refl 0
  | c :: u => by
    have h1 := (dsum_bd fs (c % w)).2
    have h2 := total_le (w := w) h u
    show dsum fs (c % w) + 2 * total w fs u ≤ 0
    omega
theorem half_up {d x t : Int} : x ≤ d + 2 * t ↔ -((d - x).fdiv 2) ≤ t := by
  rw [Int.fdiv_eq_ediv_of_nonneg _ (by decide : (0 : Int) ≤ 2)]
  omega
theorem half_down {d x t : Int} : d + 2 * t ≤ x ↔ t ≤ (x - d).fdiv 2 := by
  rw [Int.fdiv_eq_ediv_of_nonneg _ (by decide : (0 : Int) ≤ 2)]
  omega
def leastF (fs : List Int) (x : Int) (c : Nat) : Int :=
  let t := -((dsum fs c - x).fdiv 2)
  if highS fs = 0 ∧ 0 < t then 1 else if lowS fs = 0 ∧ t ≤ 0 then 0 else t
theorem least_reads {w : Nat} {fs : List Int} : ∀ (u : List Nat) (x : Int), decide (fold w (leastF fs) x u ≤ 0) = decide (x ≤ total w fs u)
  | [], x => rfl
  | c :: u, x => by
    show decide (fold w (leastF fs) (leastF fs x (c % w)) u ≤ 0) = decide (x ≤ dsum fs (c % w) + 2 * total w fs u)
    rw [least_reads u]
    refine decide_eq_decide.mpr ?_
    rw [half_up]
    unfold leastF
    dsimp only
    split
    · rename_i h
      have := total_le (w := w) h.1 u
      omega
    · split
      · rename_i h
        have := total_ge (w := w) h.1 u
        omega
      · exact Iff.rfl
def betweenF (fs : List Int) (x : Option (Int × Int)) (c : Nat) : Option (Int × Int) := match x with
  | none => none
  | some (a, b) =>
    let p := -((dsum fs c - a).fdiv 2)
    let q := (b - dsum fs c).fdiv 2
    let p := if lowS fs = 0 then max p 0 else p
    let q := if highS fs = 0 then min q 0 else q
    if p ≤ q then some (p, q) else none
def inside (x : Option (Int × Int)) (t : Int) : Bool := match x with
  | none => false
  | some (a, b) => decide (a ≤ t ∧ t ≤ b)
theorem between_reads {w : Nat} {fs : List Int} : ∀ (u : List Nat) (x : Option (Int × Int)), inside (fold w (betweenF fs) x u) 0 = inside x (total w fs u)
  | [], x => rfl
  | c :: u, none => by
    show inside (fold w (betweenF fs) none u) 0 = false
    rw [between_reads u]
    rfl
  | c :: u, some (a, b) => by
    show inside (fold w (betweenF fs) (betweenF fs (some (a, b)) (c % w)) u) 0 = decide (a ≤ dsum fs (c % w) + 2 * total w fs u ∧ dsum fs (c % w) + 2 * total w fs u ≤ b)
    rw [between_reads u]
    have e1 := half_up (d := dsum fs (c % w)) (x := a) (t := total w fs u)
    have e2 := half_down (d := dsum fs (c % w)) (x := b) (t := total w fs u)
    unfold betweenF
    dsimp only
    generalize -((dsum fs (c % w) - a).fdiv 2) = p at *
    generalize (b - dsum fs (c % w)).fdiv 2 = q at *
    have lo : lowS fs = 0 → 0 ≤ total w fs u := fun h => total_ge h u
    have hi : highS fs = 0 → total w fs u ≤ 0 := fun h => total_le h u
    rw [show decide (a ≤ dsum fs (c % w) + 2 * total w fs u ∧ dsum fs (c % w) + 2 * total w fs u ≤ b) = decide (p ≤ total w fs u ∧ total w fs u ≤ q) from decide_eq_decide.mpr (and_congr e1 e2)]
    clear e1 e2
    generalize total w fs u = t at *
    by_cases h1 : lowS fs = 0
    · have lo := lo h1
      rw [if_pos h1]
      by_cases h2 : highS fs = 0
      · have hi := hi h2
        rw [if_pos h2]
        split
        · exact decide_eq_decide.mpr (by omega)
        · exact (decide_eq_false (by omega)).symm
      · rw [if_neg h2]
        split
        · exact decide_eq_decide.mpr (by omega)
        · exact (decide_eq_false (by omega)).symm
    · rw [if_neg h1]
      by_cases h2 : highS fs = 0
      · have hi := hi h2
        rw [if_pos h2]
        split
        · exact decide_eq_decide.mpr (by omega)
        · exact (decide_eq_false (by omega)).symm
      · rw [if_neg h2]
        split
        · exact decide_eq_decide.mpr (by omega)
        · exact (decide_eq_false (by omega)).symm
end ZA
namespace ZA
def atR (v : List Bool) (t : Int) : Bool := v.getD (t % (v.length : Int)).toNat false
theorem flat_at {α : Type} (v : List α) (hv : v ≠ []) : ∀ (k i : Nat), i < k * v.length → (List.replicate k v).flatten[i]? = v[i % v.length]?
  | 0, i, h => by
    rw [Nat.zero_mul] at h
    exact absurd h (Nat.not_lt_zero _)
  | k + 1, i, h => by
    have hp : 0 < v.length := List.length_pos_iff.mpr hv
    rw [List.replicate_succ, List.flatten_cons]
    rcases Nat.lt_or_ge i v.length with q | q
    · rw [List.getElem?_append_left q, Nat.mod_eq_of_lt q]
    · rw [List.getElem?_append_right q, flat_at v hv k _ (by rw [Nat.succ_mul] at h; omega), Nat.mod_eq_sub_mod q]
theorem flat_len {α : Type} (v : List α) : ∀ k : Nat, (List.replicate k v).flatten.length = k * v.length
  | 0 => by rw [Nat.zero_mul]; rfl
  | k + 1 => by rw [List.replicate_succ, List.flatten_cons, List.length_append, flat_len v k, Nat.succ_mul, Nat.add_comm]
/-- a row that repeats itself is read as its part -/
theorem at_rep {v : List Bool} {k : Nat} (hv : v ≠ []) (hk : 1 ≤ k) (t : Int) : atR (List.replicate k v).flatten t = atR v t := by
  have hp : 0 < v.length := List.length_pos_iff.mpr hv
  unfold atR
  rw [List.getD_eq_getElem?_getD, List.getD_eq_getElem?_getD, flat_len]
  have hm : 0 < k * v.length := Nat.mul_pos hk hp
  have b1 := Int.emod_nonneg t (b := ((k * v.length : Nat) : Int)) (by omega)
  have b2 := Int.emod_lt_of_pos t (b := ((k * v.length : Nat) : Int)) (by omega)
  rw [flat_at v hv k _ (by omega)]
  have e : (t % ((k * v.length : Nat) : Int)).toNat % v.length = (t % (v.length : Int)).toNat := by
    have d : (v.length : Int) ∣ ((k * v.length : Nat) : Int) := by
      rw [Int.natCast_mul]
      exact Int.dvd_mul_left _ _
    have q := Int.emod_emod_of_dvd t d
    have c := Int.emod_nonneg t (b := (v.length : Int)) (by omega)
    have : (((t % ((k * v.length : Nat) : Int)).toNat % v.length : Nat) : Int) = t % (v.length : Int) := by
      rw [Int.natCast_emod, Int.toNat_of_nonneg b1]
      exact q
    omega
  rw [e]
/-- a letter whose digits' sum is d, an odd length -/
def oddR (v : List Bool) (d : Int) : List Bool := (List.range v.length).map fun (r : Nat) => atR v (d + 2 * (r : Int))
def evenR (v : List Bool) (d : Int) : List Bool := (List.range (v.length / 2)).map fun (r : Nat) => atR v (d + 2 * (r : Int))
theorem atR_mod {v : List Bool} {a b : Int} (h : ∃ k : Int, a = b + (v.length : Int) * k) : atR v a = atR v b := by
  obtain ⟨k, rfl⟩ := h
  unfold atR
  rw [Int.add_mul_emod_self_left]
theorem atR_map {m : Nat} (hm : 0 < m) (f : Nat → Bool) (t : Int) : atR ((List.range m).map f) t = f (t % (m : Int)).toNat := by
  have b1 := Int.emod_nonneg t (b := (m : Int)) (by omega)
  have b2 := Int.emod_lt_of_pos t (b := (m : Int)) (by omega)
  unfold atR
  rw [List.length_map, List.length_range, List.getD_eq_getElem?_getD, List.getElem?_map, List.getElem?_range (by omega)]
  rfl
theorem odd_reads {v : List Bool} (hv : v ≠ []) (d t : Int) : atR (oddR v d) t = atR v (d + 2 * t) := by
  have hp : 0 < v.length := List.length_pos_iff.mpr hv
  unfold oddR
  rw [atR_map hp]
  refine atR_mod ⟨-(2 * (t / (v.length : Int))), ?_⟩
  have b1 := Int.emod_nonneg t (b := (v.length : Int)) (by omega)
  have e := Int.emod_add_mul_ediv t (v.length : Int)
  rw [Int.toNat_of_nonneg b1]
  have : (v.length : Int) * -(2 * (t / (v.length : Int))) = -(2 * ((v.length : Int) * (t / (v.length : Int)))) := by
    rw [Int.mul_neg, Int.mul_left_comm]
  rw [this]
  omega
theorem even_reads {v : List Bool} {h : Nat} (hh : 0 < h) (hl : v.length = 2 * h) (d t : Int) : atR (evenR v d) t = atR v (d + 2 * t) := by
  unfold evenR
  rw [hl, Nat.mul_div_cancel_left h (by decide : 0 < 2), atR_map hh]
  refine atR_mod ⟨-(t / (h : Int)), ?_⟩
  have b1 := Int.emod_nonneg t (b := (h : Int)) (by omega)
  have e := Int.emod_add_mul_ediv t (h : Int)
  rw [Int.toNat_of_nonneg b1, hl]
  have : ((2 * h : Nat) : Int) * -(t / (h : Int)) = -(2 * ((h : Int) * (t / (h : Int)))) := by
    rw [Int.natCast_mul, Int.mul_neg, Int.mul_assoc]
    rfl
  rw [this]
  omega
theorem one_reads {v : List Bool} (h : v.length = 1) (s t : Int) : atR v s = atR v t := atR_mod ⟨s - t, by rw [h]; omega⟩
/-- a row that is read as v modulo its own length -/
def RestLike (v u : List Bool) : Prop := u ≠ [] ∧ ∀ t, atR u t = atR v t
/-- one step of the states: sh makes a row shorter and leaves what is read -/
def restF (sh : List Bool → List Bool) (fs : List Int) (v : List Bool) (c : Nat) : List Bool := if v.length = 1 then v else if v.length % 2 = 1 then oddR v (dsum fs c) else sh (evenR v (dsum fs c))
theorem rest_reads {w : Nat} {fs : List Int} {sh : List Bool → List Bool} (hs : ∀ v, v ≠ [] → RestLike v (sh v)) : ∀ (u : List Nat) (v : List Bool), v ≠ [] → fold w (restF sh fs) v u ≠ [] ∧ atR (fold w (restF sh fs) v u) 0 = atR v (total w fs u)
  | [], v, hv => ⟨hv, rfl⟩
  | c :: u, v, hv => by
    have hp : 0 < v.length := List.length_pos_iff.mpr hv
    show fold w (restF sh fs) (restF sh fs v (c % w)) u ≠ [] ∧ atR (fold w (restF sh fs) (restF sh fs v (c % w)) u) 0 = atR v (dsum fs (c % w) + 2 * total w fs u)
    have key : restF sh fs v (c % w) ≠ [] ∧ ∀ t, atR (restF sh fs v (c % w)) t = atR v (dsum fs (c % w) + 2 * t) := by
      unfold restF
      by_cases h1 : v.length = 1
      · rw [if_pos h1]
        exact ⟨hv, fun t => one_reads h1 _ _⟩
      · rw [if_neg h1]
        by_cases h2 : v.length % 2 = 1
        · rw [if_pos h2]
          refine ⟨fun z => ?_, odd_reads hv _⟩
          have := congrArg List.length z
          unfold oddR at this
          rw [List.length_map, List.length_range] at this
          rw [this] at hp
          exact absurd hp (Nat.lt_irrefl 0)
        · rw [if_neg h2]
          have ne : evenR v (dsum fs (c % w)) ≠ [] := fun z => by
            have := congrArg List.length z
            unfold evenR at this
            rw [List.length_map, List.length_range] at this
            have : v.length / 2 = 0 := this
            omega
          obtain ⟨q1, q2⟩ := hs _ ne
          exact ⟨q1, fun t => (q2 t).trans (even_reads (h := v.length / 2) (by omega) (by omega) _ t)⟩
    obtain ⟨k1, k2⟩ := key
    obtain ⟨r1, r2⟩ := rest_reads hs u _ k1
    exact ⟨r1, r2.trans (k2 _)⟩
def oneF (fs : List Int) (x : Option (Nat × Nat)) (c : Nat) : Option (Nat × Nat) := match x with
  | none => none
  | some (m, l) => if m = 1 then some (m, l) else
    let q := (((l : Int) - dsum fs c) % (m : Int)).toNat
    if m % 2 = 1 then some (m, (if q % 2 = 0 then q else q + m) / 2) else if q % 2 = 0 then some (m / 2, q / 2) else none
def oneR (x : Option (Nat × Nat)) (t : Int) : Bool := match x with
  | none => false
  | some (m, l) => decide (t % (m : Int) = (l : Int))
def OneOk (x : Option (Nat × Nat)) : Prop := match x with
  | none => True
  | some (m, l) => l < m
theorem one_step {fs : List Int} {c : Nat} : ∀ {x : Option (Nat × Nat)}, OneOk x → OneOk (oneF fs x c) ∧ ∀ t, oneR (oneF fs x c) t = oneR x (dsum fs c + 2 * t)
  | none, h => ⟨trivial, fun _ => rfl⟩
  | some (m, l), h => by
    have h : l < m := h
    unfold oneF
    dsimp only
    by_cases h1 : m = 1
    · rw [if_pos h1]
      refine ⟨h, fun t => ?_⟩
      unfold oneR
      dsimp only
      subst h1
      refine decide_eq_decide.mpr ?_
      omega
    · rw [if_neg h1]
      have b1 := Int.emod_nonneg ((l : Int) - dsum fs c) (b := (m : Int)) (by omega)
      have b2 := Int.emod_lt_of_pos ((l : Int) - dsum fs c) (b := (m : Int)) (by omega)
      have e0 := Int.emod_add_mul_ediv ((l : Int) - dsum fs c) (m : Int)
      generalize dsum fs c = d at *
      obtain ⟨q, hq⟩ : ∃ q : Nat, ((l : Int) - d) % (m : Int) = (q : Int) := ⟨(((l : Int) - d) % (m : Int)).toNat, by omega⟩
      rw [hq] at b1 b2 e0 ⊢
      have hqm : q < m := by omega
      rw [Int.toNat_natCast]
      generalize ((l : Int) - d) / (m : Int) = k at *
      -- l = d + q + m k
      have main : ∀ t : Int, (d + 2 * t) % (m : Int) = (l : Int) ↔ (m : Int) ∣ (2 * t - q) := fun t => by
        constructor
        · intro z
          have e1 := Int.emod_add_mul_ediv (d + 2 * t) (m : Int)
          rw [z] at e1
          refine ⟨(d + 2 * t) / (m : Int) + k, ?_⟩
          rw [Int.mul_add]
          omega
        · rintro ⟨j, hj⟩
          have : d + 2 * t = (l : Int) + (m : Int) * (j - k) := by
            rw [Int.mul_sub]
            omega
          rw [this, Int.add_mul_emod_self_left]
          exact Int.emod_eq_of_lt (by omega) (by omega)
      have small : ∀ (t : Int) (n r : Nat), r < n → (t % (n : Int) = (r : Int) ↔ (n : Int) ∣ (t - r)) := fun t n r hr => by
        constructor
        · intro z
          have e1 := Int.emod_add_mul_ediv t (n : Int)
          rw [z] at e1
          exact ⟨t / (n : Int), by omega⟩
        · rintro ⟨j, hj⟩
          have : t = (r : Int) + (n : Int) * j := by omega
          rw [this, Int.add_mul_emod_self_left]
          exact Int.emod_eq_of_lt (by omega) (by omega)
      by_cases h2 : m % 2 = 1
      · rw [if_pos h2]
        have lt : (if q % 2 = 0 then q else q + m) / 2 < m := by split <;> omega
        refine ⟨lt, fun t => ?_⟩
        show decide (t % (m : Int) = (((if q % 2 = 0 then q else q + m) / 2 : Nat) : Int)) = decide ((d + 2 * t) % (m : Int) = (l : Int))
        refine decide_eq_decide.mpr ?_
        rw [main, small t m _ lt]
        obtain ⟨h', hh⟩ : ∃ h' : Nat, (if q % 2 = 0 then q else q + m) = 2 * h' := ⟨(if q % 2 = 0 then q else q + m) / 2, by split <;> omega⟩
        have hd : (if q % 2 = 0 then q else q + m) / 2 = h' := by omega
        rw [hd]
        have co : ∃ a : Int, (2 * (h' : Int)) = (q : Int) + (m : Int) * a := by
          by_cases z : q % 2 = 0
          · rw [if_pos z] at hh
            exact ⟨0, by omega⟩
          · rw [if_neg z] at hh
            exact ⟨1, by omega⟩
        obtain ⟨a, ha⟩ := co
        constructor
        · rintro ⟨j, hj⟩
          refine ⟨2 * j + a, ?_⟩
          rw [Int.mul_add, Int.mul_left_comm]
          omega
        · rintro ⟨j, hj⟩
          -- 2 (t - h') = m (j - a), m odd
          obtain ⟨g, hg⟩ : ∃ g : Int, (m : Int) = 2 * g + 1 := ⟨((m / 2 : Nat) : Int), by omega⟩
          have e1 : 2 * (t - (h' : Int)) = (m : Int) * (j - a) := by
            rw [Int.mul_sub (m : Int)]
            omega
          obtain ⟨b, hb⟩ : ∃ b : Int, j - a = 2 * b := by
            refine ⟨(t - (h' : Int)) - g * (j - a), ?_⟩
            rw [hg, Int.add_mul, Int.one_mul, Int.mul_assoc] at e1
            omega
          refine ⟨b, ?_⟩
          rw [hb, Int.mul_left_comm] at e1
          omega
      · rw [if_neg h2]
        by_cases h3 : q % 2 = 0
        · rw [if_pos h3]
          have lt : q / 2 < m / 2 := by omega
          refine ⟨lt, fun t => ?_⟩
          show decide (t % ((m / 2 : Nat) : Int) = ((q / 2 : Nat) : Int)) = decide ((d + 2 * t) % (m : Int) = (l : Int))
          refine decide_eq_decide.mpr ?_
          rw [main, small t _ _ lt]
          obtain ⟨m', hm'⟩ : ∃ m' : Nat, m = 2 * m' := ⟨m / 2, by omega⟩
          obtain ⟨q', hq'⟩ : ∃ q' : Nat, q = 2 * q' := ⟨q / 2, by omega⟩
          have em : m / 2 = m' := by omega
          have eq' : q / 2 = q' := by omega
          rw [em, eq', hm', hq']
          constructor
          · rintro ⟨j, hj⟩
            refine ⟨j, ?_⟩
            rw [show ((2 * m' : Nat) : Int) * j = 2 * ((m' : Int) * j) by rw [Int.natCast_mul, Int.mul_assoc]; rfl, ← hj]
            omega
          · rintro ⟨j, hj⟩
            refine ⟨j, ?_⟩
            rw [show ((2 * m' : Nat) : Int) * j = 2 * ((m' : Int) * j) by rw [Int.natCast_mul, Int.mul_assoc]; rfl] at hj
            omega
        · rw [if_neg h3]
          refine ⟨trivial, fun t => ?_⟩
          refine (decide_eq_false ?_).symm
          rw [main]
          rintro ⟨j, hj⟩
          obtain ⟨m', hm'⟩ : ∃ m' : Nat, m = 2 * m' := ⟨m / 2, by omega⟩
          rw [hm', show ((2 * m' : Nat) : Int) * j = 2 * ((m' : Int) * j) by rw [Int.natCast_mul, Int.mul_assoc]; rfl] at hj
          omega
theorem oneF_reads {w : Nat} {fs : List Int} : ∀ (u : List Nat) (x : Option (Nat × Nat)), OneOk x → oneR (fold w (oneF fs) x u) 0 = oneR x (total w fs u)
  | [], x, _ => rfl
  | c :: u, x, h => by
    obtain ⟨h1, h2⟩ := one_step (fs := fs) (c := c % w) h
    show oneR (fold w (oneF fs) (oneF fs x (c % w)) u) 0 = oneR x (dsum fs (c % w) + 2 * total w fs u)
    rw [oneF_reads u _ h1, h2]
def letterAt : List Nat → Nat → Nat
  | [], _ => 0
  | x :: xs, j => x / 2 ^ j % 2 + 2 * letterAt xs j
def word (xs : List Nat) (L : Nat) : List Nat := (List.range L).map (letterAt xs)
def dot : List Int → List Nat → Int
  | f :: fs, x :: xs => f * (x : Int) + dot fs xs
  | _, _ => 0
theorem letter_lt : ∀ (xs : List Nat) (j : Nat), letterAt xs j < 2 ^ xs.length
  | [], j => by
    show 0 < 2 ^ 0
    decide
  | x :: xs, j => by
    have h := letter_lt xs j
    have m := Nat.mod_lt (x / 2 ^ j) (by decide : 0 < 2)
    show x / 2 ^ j % 2 + 2 * letterAt xs j < _
    rw [List.length_cons, Nat.pow_succ]
    omega
theorem letter_half : ∀ (xs : List Nat) (j : Nat), letterAt xs (j + 1) = letterAt (xs.map (· / 2)) j
  | [], j => rfl
  | x :: xs, j => by
    show x / 2 ^ (j + 1) % 2 + 2 * letterAt xs (j + 1) = x / 2 / 2 ^ j % 2 + 2 * letterAt (xs.map (· / 2)) j
    rw [letter_half xs j, Nat.pow_succ', Nat.div_div_eq_div_mul]
theorem word_succ (xs : List Nat) (L : Nat) : word xs (L + 1) = letterAt xs 0 :: word (xs.map (· / 2)) L := by
  unfold word
  rw [List.range_succ_eq_map, List.map_cons, List.map_map]
  exact congrArg _ (List.map_congr_left fun j _ => letter_half xs j)
theorem dsum_letter : ∀ (fs : List Int) (xs : List Nat), dsum fs (letterAt xs 0) = dot fs (xs.map (· % 2))
  | [], xs => by cases xs <;> rfl
  | f :: fs, [] => by
    show (if 0 % 2 = 1 then f else 0) + dsum fs (0 / 2) = 0
    have : ∀ gs : List Int, dsum gs 0 = 0 := fun gs => by
      induction gs with
      | nil => rfl
      | cons g gs ih =>
        show (if 0 % 2 = 1 then g else 0) + dsum gs (0 / 2) = 0
        rw [Nat.zero_div, ih]
        rfl
    rw [Nat.zero_div, this]
    rfl
  | f :: fs, x :: xs => by
    show (if (x / 2 ^ 0 % 2 + 2 * letterAt xs 0) % 2 = 1 then f else 0) + dsum fs ((x / 2 ^ 0 % 2 + 2 * letterAt xs 0) / 2) = f * ((x % 2 : Nat) : Int) + dot fs (xs.map (· % 2))
    have m := Nat.mod_lt x (by decide : 0 < 2)
    rw [Nat.pow_zero, Nat.div_one, show (x % 2 + 2 * letterAt xs 0) / 2 = letterAt xs 0 by omega, dsum_letter fs xs]
    congr 1
    by_cases h : x % 2 = 1
    · rw [if_pos (by omega), h]
      exact (Int.mul_one f).symm
    · rw [if_neg (by omega), show x % 2 = 0 by omega]
      exact (Int.mul_zero f).symm
theorem dot_half : ∀ (fs : List Int) (xs : List Nat), dot fs xs = dot fs (xs.map (· % 2)) + 2 * dot fs (xs.map (· / 2))
  | [], xs => by cases xs <;> rfl
  | f :: fs, [] => rfl
  | f :: fs, x :: xs => by
    show f * (x : Int) + dot fs xs = f * ((x % 2 : Nat) : Int) + dot fs (xs.map (· % 2)) + 2 * (f * ((x / 2 : Nat) : Int) + dot fs (xs.map (· / 2)))
    rw [dot_half fs xs]
    have e : (x : Int) = ((x % 2 : Nat) : Int) + 2 * ((x / 2 : Nat) : Int) := by omega
    have : f * (x : Int) = f * ((x % 2 : Nat) : Int) + 2 * (f * ((x / 2 : Nat) : Int)) := by
      conv => lhs; rw [e]
      rw [Int.mul_add, Int.mul_left_comm]
    rw [this]
    omega
theorem dot_zero : ∀ (fs : List Int) (xs : List Nat), (∀ x ∈ xs, x = 0) → dot fs xs = 0
  | [], xs, _ => by cases xs <;> rfl
  | f :: fs, [], _ => rfl
  | f :: fs, x :: xs, h => by
    show f * (x : Int) + dot fs xs = 0
    rw [h x (List.mem_cons_self ..), dot_zero fs xs fun y hy => h y (List.mem_cons_of_mem _ hy)]
    rw [show ((0 : Nat) : Int) = 0 from rfl, Int.mul_zero]
    rfl
/-- the word of a row of numbers says their sum -/
theorem total_word (fs : List Int) : ∀ (L : Nat) (xs : List Nat), xs.length = fs.length → (∀ x ∈ xs, x < 2 ^ L) → total (2 ^ fs.length) fs (word xs L) = dot fs xs
  | 0, xs, hl, h => by
    rw [dot_zero fs xs fun x hx => by have := h x hx; rw [Nat.pow_zero] at this; omega]
    rfl
  | L + 1, xs, hl, h => by
    rw [word_succ, dot_half, ← dsum_letter]
    show dsum fs (letterAt xs 0 % 2 ^ fs.length) + 2 * total (2 ^ fs.length) fs (word (xs.map (· / 2)) L) = _
    rw [Nat.mod_eq_of_lt (by rw [← hl]; exact letter_lt xs 0), total_word fs L _ (by rw [List.length_map]; exact hl) fun y hy => by
      obtain ⟨x, hx, rfl⟩ := List.mem_map.mp hy
      have := h x hx
      rw [Nat.pow_succ] at this
      show x / 2 < 2 ^ L
      omega]
/-- on the states of S, marks tell just what is read -/
structure MarksOn {α : Type} (A : Aut) (S : Nat → Prop) (m : Nat → α) : Prop where
  inn : ∀ s, S s → s < A.n
  go : ∀ s c, S s → c < A.w → S (A.to s c)
  iff : ∀ s t, S s → S t → (m s = m t ↔ A.lang s = A.lang t)
/-- a state whose successors are marked: its mark is a known one just if its key is -/
theorem MarksOn.add {α : Type} {A : Aut} {S : Nat → Prop} {m m' : Nat → α} {x : Nat} (h : A.Ok) (q : MarksOn A S m) (hx : x < A.n) (nx : ¬ S x) (hs : ∀ c, c < A.w → S (A.to x c)) (same : ∀ s, S s → m' s = m s)
    (hm : ∀ s, S s → (m' x = m s ↔ A.endAt x = A.endAt s ∧ ∀ c, c < A.w → m (A.to x c) = m (A.to s c))) : MarksOn A (fun s => S s ∨ s = x) m' := by
  have key : ∀ s, S s → (m' x = m' s ↔ A.lang x = A.lang s) := fun s hS => by
    rw [same s hS, hm s hS]
    constructor
    · rintro ⟨e0, e1⟩
      exact lang_ext h h rfl e0 fun c hc => (q.iff _ _ (hs c hc) (q.go s c hS hc)).mp (e1 c hc)
    · intro e
      exact ⟨lang_end e, fun c hc => (q.iff _ _ (hs c hc) (q.go s c hS hc)).mpr (lang_to h h rfl e hc)⟩
  refine ⟨fun s hS => ?_, fun s c hS hc => ?_, fun s t hS hT => ?_⟩
  · rcases hS with hS | rfl
    · exact q.inn s hS
    · exact hx
  · rcases hS with hS | rfl
    · exact .inl (q.go s c hS hc)
    · exact .inl (hs c hc)
  · rcases hS with hS | rfl
    · rcases hT with hT | rfl
      · rw [same s hS, same t hT]
        exact q.iff s t hS hT
      · exact ⟨fun e => ((key s hS).mp e.symm).symm, fun e => ((key s hS).mpr e.symm).symm⟩
    · rcases hT with hT | rfl
      · exact key t hT
      · exact ⟨fun _ => rfl, fun _ => rfl⟩
theorem MarksOn.all {α : Type} {A : Aut} {S : Nat → Prop} {m : Nat → α} (q : MarksOn A S m) (a : ∀ s, s < A.n → S s) : Marks A m := fun s t hs ht => q.iff s t (a s hs) (a t ht)
/-- a machine of some of the states, closed under the letters: at tells its states among A's -/
theorem sub_lang {A B : Aut} (hA : A.Ok) (hB : B.Ok) (hw : A.w = B.w) {at_ : Nat → Nat} (he : ∀ s, s < B.n → B.endAt s = A.endAt (at_ s)) (ht : ∀ s c, s < B.n → c < B.w → at_ (B.to s c) = A.to (at_ s) c) : ∀ (u : List Nat) (s : Nat), s < B.n → B.lang s u = A.lang (at_ s) u
  | [], s, hs => he s hs
  | c :: u, s, hs => by
    have hc : c % B.w < B.w := Nat.mod_lt _ hB.w1
    show B.lang (B.to s (c % B.w)) u = A.lang (A.to (at_ s) (c % A.w)) u
    rw [sub_lang hA hB hw he ht u _ (to_lt hB hs hc), ht s _ hs hc, hw]
end ZA
namespace ZA
def Closed {σ : Type} (fol : σ → Nat → σ) (F : List σ) : Prop := ∀ x ∈ F, ∀ c, fol x c ∈ F
/-- the whole numbers from a on, k of them -/
def span (a : Int) (k : Nat) : List Int := (List.range k).map fun (i : Nat) => a + (i : Int)
theorem mem_span {a x : Int} {k : Nat} : x ∈ span a k ↔ a ≤ x ∧ x < a + k := by
  unfold span
  rw [List.mem_map]
  constructor
  · rintro ⟨i, hi, rfl⟩
    rw [List.mem_range] at hi
    omega
  · rintro ⟨h1, h2⟩
    exact ⟨(x - a).toNat, List.mem_range.mpr (by omega), by omega⟩
theorem span_len (a : Int) (k : Nat) : (span a k).length = k := by simp [span]
theorem half_eq (z : Int) : z.fdiv 2 = z / 2 := Int.fdiv_eq_ediv_of_nonneg _ (by decide)
theorem least_few {fs : List Int} {x0 : Int} (hx : -10 ≤ x0 ∧ x0 ≤ 10) (hs : highS fs - lowS fs ≤ 9) : ∃ F : List Int, x0 ∈ F ∧ Closed (leastF fs) F ∧ F.length ≤ 20 := by
  have l0 := lowS_le fs
  have h0 := highS_ge fs
  refine ⟨span (min x0 (-highS fs)) (max x0 (-lowS fs) - min x0 (-highS fs) + 1).toNat, mem_span.mpr (by omega), fun x h c => ?_, by rw [span_len]; omega⟩
  rw [mem_span] at h ⊢
  have d := dsum_bd fs c
  unfold leastF
  rw [half_eq]
  dsimp only
  split
  · omega
  · split <;> omega
theorem between_few {fs : List Int} {x0 : Int} (hx : -10 ≤ x0 ∧ x0 ≤ 10) (hs : highS fs - lowS fs ≤ 9) : ∃ F : List (Option (Int × Int)), some (x0, x0) ∈ F ∧ Closed (betweenF fs) F ∧ F.length ≤ 20 := by
  have l0 := lowS_le fs
  have h0 := highS_ge fs
  have key : ∀ (a : Int) (k : Nat), (∀ x c p, a ≤ x → x < a + k → p = -((dsum fs c - x) / 2) → p = (x - dsum fs c) / 2 → (lowS fs = 0 → 0 ≤ p) → (highS fs = 0 → p ≤ 0) → a ≤ p ∧ p < a + k) → Closed (betweenF fs) (none :: (span a k).map fun p => some (p, p)) := by
    intro a k hk x hx c
    rcases List.mem_cons.mp hx with rfl | hx
    · exact List.mem_cons_self
    · obtain ⟨p, hp, rfl⟩ := List.mem_map.mp hx
      rw [mem_span] at hp
      have goal : betweenF fs (some (p, p)) c = none ∨ ∃ q, betweenF fs (some (p, p)) c = some (q, q) ∧ a ≤ q ∧ q < a + k := by
        unfold betweenF
        dsimp only
        rw [half_eq, half_eq]
        have pq : -((dsum fs c - p) / 2) = (p - dsum fs c) / 2 ∨ -((dsum fs c - p) / 2) = (p - dsum fs c) / 2 + 1 := by omega
        have e1 := hk p c (-((dsum fs c - p) / 2)) hp.1 hp.2 rfl
        generalize -((dsum fs c - p) / 2) = P at *
        generalize (p - dsum fs c) / 2 = R at *
        by_cases hle : (if lowS fs = 0 then max P 0 else P) ≤ (if highS fs = 0 then min R 0 else R)
        · rw [if_pos hle]
          have a1 : lowS fs = 0 → max P 0 ≤ (if highS fs = 0 then min R 0 else R) := fun h => by rw [if_pos h] at hle; exact hle
          have a2 : ¬ lowS fs = 0 → P ≤ (if highS fs = 0 then min R 0 else R) := fun h => by rw [if_neg h] at hle; exact hle
          have hPR : P ≤ R := by
            by_cases hl : lowS fs = 0
            · have := a1 hl
              by_cases hh : highS fs = 0
              · rw [if_pos hh] at this; omega
              · rw [if_neg hh] at this; omega
            · have := a2 hl
              by_cases hh : highS fs = 0
              · rw [if_pos hh] at this; omega
              · rw [if_neg hh] at this; omega
          have e : P = R := by omega
          have hlo : lowS fs = 0 → 0 ≤ P := fun hl => by
            have := a1 hl
            by_cases hh : highS fs = 0
            · rw [if_pos hh] at this; omega
            · rw [if_neg hh] at this; omega
          have hhi : highS fs = 0 → P ≤ 0 := fun hh => by
            by_cases hl : lowS fs = 0
            · have := a1 hl
              rw [if_pos hh] at this; omega
            · have := a2 hl
              rw [if_pos hh] at this; omega
          refine .inr ⟨P, ?_, e1 e hlo hhi⟩
          have q1 : (if lowS fs = 0 then max P 0 else P) = P := by
            by_cases hl : lowS fs = 0
            · rw [if_pos hl]; have := hlo hl; omega
            · rw [if_neg hl]
          have q2 : (if highS fs = 0 then min R 0 else R) = P := by
            by_cases hh : highS fs = 0
            · rw [if_pos hh]; have := hhi hh; omega
            · rw [if_neg hh, e]
          rw [q1, q2]
        · rw [if_neg hle]
          exact .inl rfl
      rcases goal with e | ⟨q, e, q1, q2⟩
      · rw [e]; exact List.mem_cons_self
      · rw [e]
        exact List.mem_cons_of_mem _ (List.mem_map.mpr ⟨q, mem_span.mpr ⟨q1, q2⟩, rfl⟩)
  by_cases hl : lowS fs = 0
  · refine ⟨none :: (span (min x0 0) (max x0 0 - min x0 0 + 1).toNat).map fun p => some (p, p), List.mem_cons_of_mem _ (List.mem_map.mpr ⟨x0, mem_span.mpr (by omega), rfl⟩), key _ _ fun x c p a1 a2 a3 a4 a5 a6 => ?_, by simp [span_len]; omega⟩
    have d := dsum_bd fs c
    have := a5 hl
    omega
  · by_cases hh : highS fs = 0
    · refine ⟨none :: (span (min x0 0) (max x0 0 - min x0 0 + 1).toNat).map fun p => some (p, p), List.mem_cons_of_mem _ (List.mem_map.mpr ⟨x0, mem_span.mpr (by omega), rfl⟩), key _ _ fun x c p a1 a2 a3 a4 a5 a6 => ?_, by simp [span_len]; omega⟩
      have d := dsum_bd fs c
      have := a6 hh
      omega
    · refine ⟨none :: (span (min x0 (-highS fs)) (max x0 (-lowS fs) - min x0 (-highS fs) + 1).toNat).map fun p => some (p, p), List.mem_cons_of_mem _ (List.mem_map.mpr ⟨x0, mem_span.mpr (by omega), rfl⟩), key _ _ fun x c p a1 a2 a3 a4 a5 a6 => ?_, by simp [span_len]; omega⟩
      have d := dsum_bd fs c
      omega
def chainM (m : Nat) : List Nat := if m = 2 then [2, 1] else if m = 4 then [4, 2, 1] else if m = 6 then [6, 3] else [m]
def oneStates (m : Nat) : List (Option (Nat × Nat)) := none :: (chainM m).flatMap fun k => (List.range k).map fun r => some (k, r)
theorem mem_one {m k r : Nat} : some (k, r) ∈ oneStates m ↔ k ∈ chainM m ∧ r < k := by
  unfold oneStates
  rw [List.mem_cons, List.mem_flatMap]
  constructor
  · rintro (h | ⟨k', hk, h⟩)
    · cases h
    · obtain ⟨r', hr, e⟩ := List.mem_map.mp h
      cases e
      exact ⟨hk, List.mem_range.mp hr⟩
  · rintro ⟨h1, h2⟩
    exact .inr ⟨k, h1, List.mem_map.mpr ⟨r, List.mem_range.mpr h2, rfl⟩⟩
theorem chain_half {m k : Nat} (hm : 1 ≤ m ∧ m ≤ 6) (h : k ∈ chainM m) (h1 : k ≠ 1) (h2 : k % 2 ≠ 1) : k / 2 ∈ chainM m ∧ 2 ≤ k := by
  have h6 : m = 1 ∨ m = 2 ∨ m = 3 ∨ m = 4 ∨ m = 5 ∨ m = 6 := by omega
  rcases h6 with rfl | rfl | rfl | rfl | rfl | rfl <;> simp [chainM] at h ⊢ <;> omega
theorem one_few {fs : List Int} {m r : Nat} (hm : 1 ≤ m ∧ m ≤ 6) (hr : r < m) : some (m, r) ∈ oneStates m ∧ Closed (oneF fs) (oneStates m) ∧ (oneStates m).length ≤ 20 := by
  refine ⟨mem_one.mpr ⟨?_, hr⟩, fun x hx c => ?_, ?_⟩
  · have h6 : m = 1 ∨ m = 2 ∨ m = 3 ∨ m = 4 ∨ m = 5 ∨ m = 6 := by omega
    rcases h6 with rfl | rfl | rfl | rfl | rfl | rfl <;> simp [chainM]
  · cases x with
    | none => exact List.mem_cons_self
    | some p =>
      obtain ⟨k, l⟩ := p
      obtain ⟨h1, h2⟩ := mem_one.mp hx
      unfold oneF
      dsimp only
      by_cases e1 : k = 1
      · rw [if_pos e1]; exact hx
      · rw [if_neg e1]
        have hq : (((l : Int) - dsum fs c) % (k : Int)).toNat < k := by
          have a := Int.emod_nonneg ((l : Int) - dsum fs c) (b := (k : Int)) (by omega)
          have b := Int.emod_lt_of_pos ((l : Int) - dsum fs c) (b := (k : Int)) (by omega)
          omega
        generalize (((l : Int) - dsum fs c) % (k : Int)).toNat = q at hq ⊢
        by_cases e2 : k % 2 = 1
        · rw [if_pos e2]
          refine mem_one.mpr ⟨h1, ?_⟩
          split <;> omega
        · rw [if_neg e2]
          split
          · obtain ⟨a, b⟩ := chain_half hm h1 e1 e2
            exact mem_one.mpr ⟨a, by omega⟩
          · exact List.mem_cons_self
  · have h6 : m = 1 ∨ m = 2 ∨ m = 3 ∨ m = 4 ∨ m = 5 ∨ m = 6 := by omega
    rcases h6 with rfl | rfl | rfl | rfl | rfl | rfl <;> decide
def allB : Nat → List (List Bool)
  | 0 => [[]]
  | k + 1 => (allB k).flatMap fun v => [false :: v, true :: v]
theorem mem_allB : ∀ {k : Nat} {v : List Bool}, v ∈ allB k ↔ v.length = k
  | 0, v => by simp [allB]
  | k + 1, v => by
    unfold allB
    rw [List.mem_flatMap]
    constructor
    · rintro ⟨u, hu, h⟩
      have := mem_allB.mp hu
      simp at h
      rcases h with rfl | rfl <;> simp [this]
    · intro h
      cases v with
      | nil => cases h
      | cons b u => exact ⟨u, mem_allB.mpr (Nat.succ.inj h), by cases b <;> simp⟩
theorem odd_mod {v : List Bool} {d : Int} : oddR v d = oddR v (d % (v.length : Int)) := by
  unfold oddR
  refine List.map_congr_left fun r _ => atR_mod ⟨d / (v.length : Int), ?_⟩
  have := Int.emod_add_mul_ediv d (v.length : Int)
  omega
theorem odd5 : ∀ v ∈ allB 5, ∀ d ∈ List.range 5, (oddR v (d : Int)).count true = v.count true := by decide +kernel
theorem few5 : ∀ k ∈ List.range 6, ((allB 5).filter fun v => v.count true == k).length ≤ 10 := by decide +kernel
theorem rest_few {fs : List Int} {sh : List Bool → List Bool} (hs : ∀ v, v ≠ [] → 1 ≤ (sh v).length ∧ (sh v).length ≤ v.length) {v0 : List Bool} (h0 : 1 ≤ v0.length ∧ v0.length ≤ 6) : ∃ F : List (List Bool), v0 ∈ F ∧ Closed (restF sh fs) F ∧ F.length ≤ 20 := by
  by_cases h5 : v0.length = 5
  · refine ⟨(allB 5).filter fun v => v.count true == v0.count true, List.mem_filter.mpr ⟨mem_allB.mpr h5, by simp⟩, fun v hv c => ?_, ?_⟩
    · obtain ⟨h1, h2⟩ := List.mem_filter.mp hv
      have hl := mem_allB.mp h1
      unfold restF
      rw [if_neg (by omega), if_pos (by omega)]
      refine List.mem_filter.mpr ⟨mem_allB.mpr (by simp [oddR, hl]), ?_⟩
      have a := Int.emod_nonneg (dsum fs c) (b := 5) (by decide)
      have b := Int.emod_lt_of_pos (dsum fs c) (b := 5) (by decide)
      have e := odd5 v h1 (dsum fs c % 5).toNat (List.mem_range.mpr (by omega))
      rw [Int.toNat_of_nonneg a] at e
      have e2 := odd_mod (v := v) (d := dsum fs c)
      rw [hl] at e2
      rw [e2]
      show ((oddR v (dsum fs c % 5)).count true == v0.count true) = true
      rw [e]
      exact h2
    · have hc : v0.count true ≤ 5 := by rw [← h5]; exact List.count_le_length
      exact Nat.le_trans (few5 _ (List.mem_range.mpr (by omega))) (by decide)
  · have key : ∀ v : List Bool, 1 ≤ v.length → v.length ≤ 3 → v ∈ allB 1 ++ allB 2 ++ allB 3 := fun v h1 h3 => by
      have : v.length = 1 ∨ v.length = 2 ∨ v.length = 3 := by omega
      rcases this with e | e | e
      · exact List.mem_append_left _ (List.mem_append_left _ (mem_allB.mpr e))
      · exact List.mem_append_left _ (List.mem_append_right _ (mem_allB.mpr e))
      · exact List.mem_append_right _ (mem_allB.mpr e)
    have step : ∀ v : List Bool, 1 ≤ v.length → v.length ≤ 6 → v.length ≠ 5 → ∀ c, 1 ≤ (restF sh fs v c).length ∧ (restF sh fs v c).length ≤ 3 := fun v h1 h6 h5 c => by
      unfold restF
      split
      · omega
      · split
        · simp only [oddR, List.length_map, List.length_range]; omega
        · have hl : (evenR v (dsum fs c)).length = v.length / 2 := by simp [evenR]
          have q := hs (evenR v (dsum fs c)) (fun e => by rw [e] at hl; simp at hl; omega)
          omega
    refine ⟨v0 :: (allB 1 ++ allB 2 ++ allB 3), List.mem_cons_self, fun v hv c => ?_, Nat.succ_le_succ (show (allB 1 ++ allB 2 ++ allB 3).length ≤ 19 by decide)⟩
    have hv' : 1 ≤ v.length ∧ v.length ≤ 6 ∧ v.length ≠ 5 := by
      rcases List.mem_cons.mp hv with rfl | hv
      · exact ⟨h0.1, h0.2, h5⟩
      · rcases List.mem_append.mp hv with hv | hv
        · rcases List.mem_append.mp hv with hv | hv <;> (have := mem_allB.mp hv; omega)
        · have := mem_allB.mp hv; omega
    obtain ⟨a, b⟩ := step v hv'.1 hv'.2.1 hv'.2.2 c
    exact List.mem_cons_of_mem _ (key _ a b)
end ZA
namespace ZA
def sOut : Int := -1099511627776
def sIn : Int := -1125899906842624
def btw : Int := -35184372088832
/-- what is told of a state that is sure already: 0, or the verdict -/
structure Sure (keep : Bool → Bool → Bool) (A B : Aut) (v1 v2 : Nat → Int) : Prop where
  one : ∀ s, s < A.n → v1 s = 0 ∨ (v1 s = sIn ∧ ∀ u b, keep (A.lang s u) b = true) ∨ (v1 s = sOut ∧ ∀ u b, keep (A.lang s u) b = false)
  two : ∀ t, t < B.n → v2 t = 0 ∨ (v2 t = sIn ∧ ∀ u a, keep a (B.lang t u) = true) ∨ (v2 t = sOut ∧ ∀ u a, keep a (B.lang t u) = false)
def clip (x : Int) : Int := if x < 0 then (if x < btw then sIn else sOut) else x
def num (v : Int) (x : Int) : Int := if v ≠ 0 then v else x
theorem num_in (x : Int) : num sIn x = sIn := by simp [num, sIn]
theorem num_out (x : Int) : num sOut x = sOut := by simp [num, sOut]
theorem num_0 (x : Int) : num 0 x = x := by simp [num]
theorem clip_in {x : Int} (h : x < btw) : clip x = sIn := by
  unfold clip
  rw [if_pos (by unfold btw at h; omega), if_pos h]
theorem clip_out {x : Int} (h : btw ≤ x) (h0 : x < 0) : clip x = sOut := by
  unfold clip
  rw [if_pos h0, if_neg (by omega)]
/-- the code of a pair of states -/
def code (B : Aut) (v1 v2 : Nat → Int) (s t : Nat) : Int := clip (num (v1 s) (s * B.n) + num (v2 t) t)
def prodF (A B : Aut) (v1 v2 : Nat → Int) (x : Int) (c : Nat) : Int :=
  if x < 0 then x else code B v1 v2 (A.to (x / B.n).toNat c) (B.to (x % B.n).toNat c)
def prodEnd (keep : Bool → Bool → Bool) (A B : Aut) (x : Int) : Bool := if x < 0 then decide (x = sIn) else keep (A.endAt (x / B.n).toNat) (B.endAt (x % B.n).toNat)
/-- what a code says of a word -/
def prodL (keep : Bool → Bool → Bool) (A B : Aut) (x : Int) (u : List Nat) : Bool := if x < 0 then decide (x = sIn) else keep (A.lang (x / B.n).toNat u) (B.lang (x % B.n).toNat u)
def PCode (A B : Aut) (x : Int) : Prop := x = sIn ∨ x = sOut ∨ (0 ≤ x ∧ x < A.n * B.n)
section
variable {keep : Bool → Bool → Bool} {A B : Aut} {v1 v2 : Nat → Int}
theorem pair_div {s t n : Nat} (h : t < n) : (((s * n + t : Nat) : Int) / (n : Int)).toNat = s ∧ (((s * n + t : Nat) : Int) % (n : Int)).toNat = t := by
  have hn : 0 < n := by omega
  constructor
  · rw [← Int.natCast_ediv, Int.toNat_natCast, Nat.mul_comm, Nat.mul_add_div hn, Nat.div_eq_of_lt h, Nat.add_zero]
  · rw [← Int.natCast_emod, Int.toNat_natCast, Nat.mul_comm, Nat.mul_add_mod, Nat.mod_eq_of_lt h]
theorem pair_lt {s t m n : Nat} (hs : s < m) (ht : t < n) : s * n + t < m * n := by
  have h : (s + 1) * n ≤ m * n := Nat.mul_le_mul_right _ hs
  rw [Nat.add_mul, Nat.one_mul] at h
  omega
/-- a pair's code says what the pair says -/
theorem code_says (S : Sure keep A B v1 v2) (hsz : A.n * B.n ≤ 1000000) {s t : Nat} (hs : s < A.n) (ht : t < B.n) : PCode A B (code B v1 v2 s t) ∧ ∀ u, prodL keep A B (code B v1 v2 s t) u = keep (A.lang s u) (B.lang t u) := by
  have hp := pair_lt hs ht
  have b1 : s * B.n ≤ 1000000 := by omega
  have b2 : t ≤ 1000000 := by
    have : B.n ≤ A.n * B.n := Nat.le_mul_of_pos_left _ (by omega)
    omega
  have e0 : ((s : Int) * (B.n : Int)) = ((s * B.n : Nat) : Int) := by push_cast; rfl
  have cin : code B v1 v2 s t = sIn → (∀ u, keep (A.lang s u) (B.lang t u) = true) → PCode A B (code B v1 v2 s t) ∧ ∀ u, prodL keep A B (code B v1 v2 s t) u = keep (A.lang s u) (B.lang t u) := fun e h => by
    rw [e]
    exact ⟨.inl rfl, fun u => by rw [h u]; simp [prodL, sIn]⟩
  have cout : code B v1 v2 s t = sOut → (∀ u, keep (A.lang s u) (B.lang t u) = false) → PCode A B (code B v1 v2 s t) ∧ ∀ u, prodL keep A B (code B v1 v2 s t) u = keep (A.lang s u) (B.lang t u) := fun e h => by
    rw [e]
    exact ⟨.inr (.inl rfl), fun u => by rw [h u]; simp [prodL, sOut, sIn]⟩
  rcases S.one s hs with h1 | ⟨h1, k1⟩ | ⟨h1, k1⟩ <;> rcases S.two t ht with h2 | ⟨h2, k2⟩ | ⟨h2, k2⟩
  · have e : code B v1 v2 s t = ((s * B.n + t : Nat) : Int) := by
      rw [code, h1, h2, num_0, num_0, e0]
      unfold clip
      rw [if_neg (by omega)]
      push_cast
      rfl
    rw [e]
    refine ⟨.inr (.inr ⟨by omega, by exact_mod_cast hp⟩), fun u => ?_⟩
    obtain ⟨d1, d2⟩ := pair_div (s := s) ht
    unfold prodL
    rw [if_neg (by omega), d1, d2]
  · refine cin ?_ fun u => k2 u _
    rw [code, h1, h2, num_0, num_in, e0]
    exact clip_in (by unfold sIn btw; omega)
  · refine cout ?_ fun u => k2 u _
    rw [code, h1, h2, num_0, num_out, e0]
    exact clip_out (by unfold sOut btw; omega) (by unfold sOut; omega)
  · refine cin ?_ fun u => k1 u _
    rw [code, h1, h2, num_0, num_in]
    exact clip_in (by unfold sIn btw; omega)
  · refine cin ?_ fun u => k1 u _
    rw [code, h1, h2, num_in, num_in]
    exact clip_in (by unfold sIn btw; omega)
  · have q := k1 [] (B.lang t [])
    rw [k2 [] _] at q
    cases q
  · refine cout ?_ fun u => k1 u _
    rw [code, h1, h2, num_0, num_out]
    exact clip_out (by unfold sOut btw; omega) (by unfold sOut; omega)
  · have q := k1 [] (B.lang t [])
    rw [k2 [] _] at q
    cases q
  · refine cout ?_ fun u => k1 u _
    rw [code, h1, h2, num_out, num_out]
    exact clip_out (by unfold sOut btw; omega) (by unfold sOut; omega)
theorem code_of {x : Int} (h0 : 0 ≤ x) (h1 : x < A.n * B.n) : (x / B.n).toNat < A.n ∧ (x % B.n).toNat < B.n := by
  obtain ⟨m, rfl⟩ := Int.eq_ofNat_of_zero_le h0
  have hm : m < A.n * B.n := by exact_mod_cast h1
  have hB : 0 < B.n := by
    rcases Nat.eq_zero_or_pos B.n with e | e
    · rw [e, Nat.mul_zero] at hm
      omega
    · exact e
  constructor
  · rw [← Int.natCast_ediv, Int.toNat_natCast]
    exact (Nat.div_lt_iff_lt_mul hB).mpr hm
  · rw [← Int.natCast_emod, Int.toNat_natCast]
    exact Nat.mod_lt _ hB
theorem prod_step (S : Sure keep A B v1 v2) (hA : A.Ok) (hB : B.Ok) (hw : A.w = B.w) (hsz : A.n * B.n ≤ 1000000) {x : Int} (hx : PCode A B x) {c : Nat} (hc : c < A.w) : PCode A B (prodF A B v1 v2 x c) ∧ ∀ u, prodL keep A B (prodF A B v1 v2 x c) u = prodL keep A B x (c :: u) := by
  rcases hx with rfl | rfl | ⟨h0, h1⟩
  · exact ⟨.inl (by simp [prodF, sIn]), fun u => by rw [show prodF A B v1 v2 sIn c = sIn by simp [prodF, sIn]]; simp [prodL, sIn]⟩
  · exact ⟨.inr (.inl (by simp [prodF, sOut])), fun u => by rw [show prodF A B v1 v2 sOut c = sOut by simp [prodF, sOut]]; simp [prodL, sOut]⟩
  · obtain ⟨a, b⟩ := code_of h0 h1
    have e : prodF A B v1 v2 x c = code B v1 v2 (A.to (x / B.n).toNat c) (B.to (x % B.n).toNat c) := by unfold prodF; rw [if_neg (by omega)]
    rw [e]
    obtain ⟨p, q⟩ := code_says S hsz (to_lt hA a hc) (to_lt hB b (hw ▸ hc))
    refine ⟨p, fun u => ?_⟩
    rw [q u]
    unfold prodL
    rw [if_neg (by omega), ← lang_nxt hA hc, ← lang_nxt hB (hw ▸ hc)]
    rfl
/-- the joined machine's language -/
theorem prod_reads (S : Sure keep A B v1 v2) (hA : A.Ok) (hB : B.Ok) (hw : A.w = B.w) (hsz : A.n * B.n ≤ 1000000) : ∀ (u : List Nat) (x : Int), PCode A B x → prodEnd keep A B (fold A.w (prodF A B v1 v2) x u) = prodL keep A B x u
  | [], x, _ => rfl
  | c :: u, x, hx => by
    have hc : c % A.w < A.w := Nat.mod_lt _ hA.w1
    obtain ⟨p, q⟩ := prod_step S hA hB hw hsz hx hc
    rw [show fold A.w (prodF A B v1 v2) x (c :: u) = fold A.w (prodF A B v1 v2) (prodF A B v1 v2 x (c % A.w)) u from rfl, prod_reads S hA hB hw hsz u _ p, q u]
    unfold prodL
    split
    · rfl
    · unfold Aut.lang
      simp only [Aut.run, Nat.mod_mod, ← hw]
end
end ZA
namespace ZA
def ClosedW {σ : Type} (w : Nat) (fol : σ → Nat → σ) (F : List σ) : Prop := ∀ x ∈ F, ∀ c, c < w → fol x c ∈ F
theorem Closed.w {σ : Type} {w : Nat} {fol : σ → Nat → σ} {F : List σ} (h : Closed fol F) : ClosedW w fol F := fun x hx c _ => h x hx c
structure EPart {σ : Type} (w : Nat) (fol : σ → Nat → σ) (first : σ) (F : List σ) (met : List σ) (rows : List (List Nat)) (row : List Nat) : Prop where
  nd : met.Nodup
  inF : ∀ x ∈ met, x ∈ F
  zero : met[0]? = some first
  le : rows.length ≤ met.length
  told : ∀ (i : Nat) (s : σ) (r : List Nat), met[i]? = some s → rows[i]? = some r → r.length = w ∧ ∀ (c e : Nat), r[c]? = some e → met[e]? = some (fol s c)
  cur : ∀ (s : σ), met[rows.length]? = some s → ∀ (c e : Nat), row[c]? = some e → met[e]? = some (fol s c)
section
variable {σ : Type} {w : Nat} {fol : σ → Nat → σ} {first : σ} {F met : List σ} {rows : List (List Nat)} {row : List Nat}
theorem EPart.start (h : first ∈ F) : EPart w fol first F [first] [] [] where
  nd := (List.pairwise_singleton _ _)
  inF := fun x hx => by rw [List.mem_singleton.mp hx]; exact h
  zero := rfl
  le := Nat.zero_le _
  told := fun i s r _ hr => by simp at hr
  cur := fun s _ c e h => by simp at h
theorem EPart.few [DecidableEq σ] (p : EPart w fol first F met rows row) : met.length ≤ F.length := nodup_le p.nd p.inF
theorem EPart.old {s : σ} {e : Nat} (p : EPart w fol first F met rows row) (hs : met[rows.length]? = some s) (he : met[e]? = some (fol s row.length)) : EPart w fol first F met rows (row ++ [e]) where
  nd := p.nd
  inF := p.inF
  zero := p.zero
  le := p.le
  told := p.told
  cur := fun s' hs' c e' h => by
    rw [hs] at hs'
    cases hs'
    rcases Nat.lt_or_ge c row.length with hc | hc
    · rw [List.getElem?_append_left hc] at h
      exact p.cur s hs c e' h
    · rw [List.getElem?_append_right hc] at h
      have : c - row.length = 0 := by
        rcases Nat.eq_zero_or_pos (c - row.length) with q | q
        · exact q
        · rw [List.getElem?_eq_none (by rw [List.length_singleton]; exact q)] at h; cases h
      rw [this] at h
      cases h
      rw [show c = row.length by omega]
      exact he
theorem EPart.new {s : σ} (p : EPart w fol first F met rows row) (hF : ClosedW w fol F) (hc : row.length < w) (hs : met[rows.length]? = some s) (hn : fol s row.length ∉ met) : EPart w fol first F (met ++ [fol s row.length]) rows (row ++ [met.length]) := by
  have up : ∀ {i : Nat} {x : σ}, met[i]? = some x → (met ++ [fol s row.length])[i]? = some x := fun {i x} h => by
    rw [List.getElem?_append_left (List.getElem?_eq_some_iff.mp h).1]; exact h
  have q : EPart w fol first F (met ++ [fol s row.length]) rows row := {
    nd := by
      rw [List.nodup_append]
      exact ⟨p.nd, (List.pairwise_singleton _ _), fun a ha b hb e => hn (by rw [List.mem_singleton.mp hb] at e; exact e ▸ ha)⟩
    inF := fun x hx => by
      rcases List.mem_append.mp hx with hx | hx
      · exact p.inF x hx
      · rw [List.mem_singleton.mp hx]; exact hF s (p.inF s (List.mem_of_getElem? hs)) _ hc
    zero := up p.zero
    le := by rw [List.length_append]; exact Nat.le_add_right_of_le p.le
    told := fun i s' r h1 h2 => by
      have hi : i < met.length := Nat.lt_of_lt_of_le (List.getElem?_eq_some_iff.mp h2).1 p.le
      rw [List.getElem?_append_left hi] at h1
      obtain ⟨a, b⟩ := p.told i s' r h1 h2
      exact ⟨a, fun c e h => up (b c e h)⟩
    cur := fun s' h1 c e h => by
      rw [up hs] at h1
      cases h1
      exact up (p.cur s hs c e h) }
  exact q.old (up hs) (by rw [List.getElem?_append_right (Nat.le_refl _), Nat.sub_self]; rfl)
theorem EPart.turn {s : σ} (p : EPart w fol first F met rows row) (hs : met[rows.length]? = some s) (hw : row.length = w) : EPart w fol first F met (rows ++ [row]) [] where
  nd := p.nd
  inF := p.inF
  zero := p.zero
  le := by rw [List.length_append]; exact (List.getElem?_eq_some_iff.mp hs).1
  told := fun i s' r h1 h2 => by
    rcases Nat.lt_or_ge i rows.length with hi | hi
    · rw [List.getElem?_append_left hi] at h2
      exact p.told i s' r h1 h2
    · rw [List.getElem?_append_right hi] at h2
      have hz : i - rows.length = 0 := by
        rcases Nat.eq_zero_or_pos (i - rows.length) with q | q
        · exact q
        · rw [List.getElem?_eq_none (by rw [List.length_singleton]; exact q)] at h2; cases h2
      rw [hz] at h2
      cases h2
      have hi' : i = rows.length := by omega
      subst hi'
      exact ⟨hw, fun c e h => p.cur s' h1 c e h⟩
  cur := fun s _ c e h => by simp at h
theorem EPart.done (p : EPart w fol first F met rows []) (h : rows.length = met.length) : Expl w fol first met rows := ⟨h, p.zero, p.told⟩
end
/-- the language of a joined machine that was explored -/
theorem joined_lang {keep : Bool → Bool → Bool} {A B : Aut} {v1 v2 : Nat → Int} {met : List Int} {rows : List (List Nat)} (S : Sure keep A B v1 v2) (hA : A.Ok) (hB : B.Ok) (hw : A.w = B.w) (hsz : A.n * B.n ≤ 1000000) (h1 : 0 < A.n) (h2 : 0 < B.n)
    (E : Expl A.w (prodF A B v1 v2) (code B v1 v2 0 0) met rows) : (⟨A.w, rows, met.map (prodEnd keep A B)⟩ : Aut).Ok ∧ ∀ u, (⟨A.w, rows, met.map (prodEnd keep A B)⟩ : Aut).lang 0 u = keep (A.lang 0 u) (B.lang 0 u) := by
  obtain ⟨p, q⟩ := code_says S hsz h1 h2
  refine ⟨E.ok hA.w1, fun u => ?_⟩
  rw [E.lang hA.w1 u 0 _ E.zero, prod_reads S hA hB hw hsz u _ p, q u]
end ZA
set_option maxHeartbeats 4000000
namespace ZpR
open PySem PySem.Spec PyProof.Rows
/-- an iterator may be drawn from: what it gives at turn i, and what it reads -/
structure DrawI (prog : Program) (w : World) (A : Around) (it : Addr) (fp : List Addr) (n : Nat) (P : Nat → Value → Prop) (St : Nat → Heap → Prop) : Prop where
  live : ∀ i h, St i h → ∃ o, h.get? it = some o
  frame : ∀ i h h', St i h → (∀ b ∈ fp, ∀ o, h.get? b = some o → h'.get? b = some o) → St i h'
  item : ∀ i (s : Shared) (Q : Value → Shared → Prop) (E : Value → Shared → Prop), i < n → St i s.heap → (∀ x h' tk, P i x → St (i + 1) h' → Heap.SameBut it s.heap h' → Q x { s with heap := h', toks := tk }) → wpAny (model prog w) A (Builtin.SmallTypes.nextOf (.ref it)) Q E s
def StopsI (prog : Program) (w : World) (A : Around) (it : Addr) (n : Nat) (St : Nat → Heap → Prop) : Prop :=
  ∀ (s : Shared) (Q : Value → Shared → Prop) (E : Value → Shared → Prop), St n s.heap → (∀ h' e, Heap.ExtBut it s.heap h' → (∃ o, h'.get? e = some o ∧ o.cls = .type "StopIteration") → E (.ref e) { s with heap := h' }) → wpAny (model prog w) A (Builtin.SmallTypes.nextOf (.ref it)) Q E s
theorem DrawI.of {prog : Program} {w : World} {A : Around} {it : Addr} {fp : List Addr} {n : Nat} {P : Nat → Value → Prop} {St : Nat → Heap → Prop} (D : Draws prog w A it fp n P St) : DrawI prog w A it fp n P St := ⟨D.live, D.frame, D.item⟩
theorem DrawI.over {prog : Program} {w : World} {A : Around} {it : Addr} {fp : List Addr} {n : Nat} {P : Nat → Value → Prop} {St : Nat → Heap → Prop} (D : DrawI prog w A it fp n P St) {i : Nat} {h h' : Heap} {x : Addr} (st : St i h) (hs : Heap.SameBut x h h') (hx : x ∉ fp) : St i h' :=
  D.frame i h h' st fun b hb o e => hs.extBut b o (fun q => hx (q ▸ hb)) e
structure Dr (prog : Program) (w : World) (A : Around) (n : Nat) where
  it : Addr
  fp : List Addr
  P : Nat → Value → Prop
  St : Nat → Heap → Prop
  D : DrawI prog w A it fp n P St
  mem : it ∈ fp
section
variable {prog : Program} {w : World} {A : Around} {n : Nat}
def its (ds : List (Dr prog w A n)) : List Value := ds.map fun d => .ref d.it
structure Sep (ds : List (Dr prog w A n)) (z TI TO : Addr) : Prop where
  zf : ∀ d ∈ ds, z ∉ d.fp
  TIi : ∀ d ∈ ds, TI ≠ d.it
  Tf : ∀ d ∈ ds, TO ∉ d.fp
  pw : ds.Pairwise (fun a b => a.it ∉ b.fp ∧ b.it ∉ a.fp)
  TIz : TI ≠ z
  TOz : TO ≠ z
  TITO : TI ≠ TO
  ne : ds ≠ []
  fin : ∀ d, ds.head? = some d → StopsI prog w A d.it n d.St
/-- what is drawn in one turn -/
inductive Row (i : Nat) : List (Dr prog w A n) → List Value → Prop
  | nil : Row i [] []
  | cons {d : Dr prog w A n} {ds : List (Dr prog w A n)} {x : Value} {xs : List Value} (h : d.P i x) (t : Row i ds xs) : Row i (d :: ds) (x :: xs)
theorem Row.snoc {i : Nat} {ds : List (Dr prog w A n)} {xs : List Value} {d : Dr prog w A n} {x : Value} (h : Row i ds xs) (q : d.P i x) : Row i (ds ++ [d]) (xs ++ [x]) := by
  induction h with
  | nil => exact .cons q .nil
  | cons h t ih => exact .cons h ih
theorem Row.length {i : Nat} {ds : List (Dr prog w A n)} {xs : List Value} (h : Row i ds xs) : xs.length = ds.length := by
  induction h with
  | nil => rfl
  | cons h t ih => simp [ih]
abbrev IsTup (h : Heap) (T : Addr) (xs : List Value) : Prop := h.get? T = some { cls := .type "tuple", data := .seq xs.toArray }
/-- where the drawing stands: done have gone on, todo not yet -/
structure Mid (i : Nat) (ds : List (Dr prog w A n)) (off : List Addr) (h : Heap) (dn todo : List (Dr prog w A n)) (xs : List Value) (h' : Heap) : Prop where
  eq : ds = dn ++ todo
  row : Row i dn xs
  st1 : ∀ d ∈ dn, d.St (i + 1) h'
  st0 : ∀ d ∈ todo, d.St i h'
  size : h'.objs.size = h.objs.size
  keep : ∀ c o, c ∉ off → (∀ d ∈ ds, c ≠ d.it) → h.get? c = some o → h'.get? c = some o
theorem Dr.over {d : Dr prog w A n} {i : Nat} {h h' : Heap} {x : Addr} (st : d.St i h) (hs : Heap.SameBut x h h') (hx : x ∉ d.fp) : d.St i h' := d.D.over st hs hx
theorem Mid.next {i : Nat} {ds dn todo : List (Dr prog w A n)} {off : List Addr} {h h1 h2 : Heap} {xs : List Value} {d : Dr prog w A n} {x : Value} (pw : ds.Pairwise (fun a b => a.it ∉ b.fp ∧ b.it ∉ a.fp)) (m : Mid i ds off h dn (d :: todo) xs h1)
    (hs : Heap.SameBut d.it h1 h2) (st : d.St (i + 1) h2) (p : d.P i x) : Mid i ds off h (dn ++ [d]) todo (xs ++ [x]) h2 := by
  have hp := m.eq ▸ pw
  rw [List.pairwise_append] at hp
  obtain ⟨_, p2, p3⟩ := hp
  have q2 := (List.pairwise_cons.mp p2).1
  refine ⟨by rw [m.eq, List.append_assoc]; rfl, m.row.snoc p, fun e he => ?_, fun e he => Dr.over (m.st0 e (List.mem_cons_of_mem _ he)) hs (q2 e he).1, by rw [hs.1, m.size], fun c o c1 c2 e => hs.extBut _ _ (c2 d (by rw [m.eq]; simp)) (m.keep c o c1 c2 e)⟩
  rcases List.mem_append.mp he with he | he
  · exact Dr.over (m.st1 e he) hs (p3 e he d List.mem_cons_self).2
  · rw [List.mem_singleton.mp he]; exact st
end
section
variable {prog : Program} {w : World} {A : Around} {E : Value → Shared → Prop} {s : Shared} {n i : Nat}
theorem next_held {ds : List (Dr prog w A n)} {z TI TO T : Addr} {f : Bool} {oT : Obj} {Q : Value → Shared → Prop} (S : Sep ds z TI TO)
    (hz : IsZipHeld s.heap z TI TO T f) (hT : s.heap.get? T = some oT) (hTI : IsTup s.heap TI (its ds)) (st : ∀ d ∈ ds, d.St i s.heap) (hi : i < n) (hsz : ds.length ≤ sizeLine)
    (hQ : ∀ xs h' tk, Row i ds xs → IsZipHeld h' z TI TO T true → (∀ d ∈ ds, d.St (i + 1) h') → IsTup h' s.heap.objs.size xs → h'.objs.size = s.heap.objs.size + 1 →
      (∀ c o, c ≠ z → (∀ d ∈ ds, c ≠ d.it) → s.heap.get? c = some o → h'.get? c = some o) → Q (.ref s.heap.objs.size) { s with heap := h', toks := tk }) :
    wpAny (model prog w) A (Builtin.«zip.__next__» ⟨[.ref z], []⟩) (fun fin s' => ∃ v, fin = .done (.ret v) ∧ Q v s') E s := by
  show wpAny _ _ (field (.ref z) 2 >>= _) _ _ _
  refine wpAny_bind (wpAny_field hz rfl (x := .bool false) rfl ?_)
  show wpAny _ _ (field (.ref z) 3 >>= _) _ _ _
  refine wpAny_bind (wpAny_field hz rfl (x := .ref TI) rfl ?_)
  refine wpAny_bind (wpAny_seqItems hTI rfl ?_)
  dsimp only
  have hne : (its ds).toArray.isEmpty = false := by
    cases ds with
    | nil => exact absurd rfl S.ne
    | cons d ds => rfl
  rw [hne]
  simp only [Bool.false_eq_true, if_false]
  refine wpAny_bind (wpAny_tupleHeld_zip hz hT fun h1 hz1 hs1 => ?_)
  simp only [Bool.false_eq_true, if_false]
  refine wpAny_bind ?_
  refine wpAny_forIn_array' _ (fun rest b s' => ∃ dn todo xs, rest = its todo ∧ b.1 = none ∧ b.2 = xs.toArray ∧ Mid i ds [z] s.heap dn todo xs s'.heap ∧ IsZipHeld s'.heap z TI TO T true ∧ ∃ tk, s' = { s with heap := s'.heap, toks := tk }) _ ?_ ?_ _ _ ?_
  · rintro x rest ⟨b1, b2⟩ s' ⟨dn, todo, xs, er, e1, e2, m, hz', tk, es⟩
    cases todo with
    | nil => cases er
    | cons d todo =>
      injection er with ex er
      subst ex er
      obtain rfl : b1 = none := e1
      obtain rfl : b2 = xs.toArray := e2
      refine wpAny_bind (wpAny_holding ?_)
      show wpAny _ _ (Builtin.SmallTypes.nextOf (.ref d.it) >>= _) _ _ _
      have hd : d ∈ ds := by rw [m.eq]; simp
      refine wpAny_bind (d.D.item i s' _ _ hi (m.st0 d List.mem_cons_self) fun x h2 tk2 hp hst hs => wpAny_pure ?_)
      refine wpAny_pure ?_
      refine ⟨dn ++ [d], todo, xs ++ [x], rfl, rfl, by simp, m.next S.pw hs hst hp, hs.extBut _ _ (fun e => S.zf d hd (e ▸ d.mem)) hz', tk2, ?_⟩
      rw [es]
  · rintro ⟨b1, b2⟩ s' ⟨dn, todo, xs, er, e1, e2, m, hz', tk, es⟩
    obtain rfl : b1 = none := e1
    obtain rfl : b2 = xs.toArray := e2
    have et : todo = [] := by
      cases todo with
      | nil => rfl
      | cons _ _ => cases er
    subst et
    have ed : ds = dn := by rw [m.eq, List.append_nil]
    subst ed
    show wpAny _ _ (newTuple xs.toArray.toList >>= _) _ _ _
    rw [es]
    refine wpAny_bind (wpAny_newTuple ?_ (by rw [List.toList_toArray, m.row.length]; exact hsz))
    refine wpAny_pure ⟨_, rfl, ?_⟩
    have hg := Heap.get?_push_size s'.heap (o := { cls := .type "tuple", data := .seq xs.toArray.toList.toArray }) rfl
    have hs := Heap.size_push s'.heap { cls := .type "tuple", data := .seq xs.toArray.toList.toArray }
    have up : ∀ c o, s'.heap.get? c = some o → (s'.heap.push { cls := .type "tuple", data := .seq xs.toArray.toList.toArray }).get? c = some o := fun c o e => Heap.get?_push_of_some _ e
    dsimp only
    rw [m.size] at hg hs ⊢
    exact hQ xs _ tk m.row (up _ _ hz') (fun d hd => d.D.frame _ _ _ (m.st1 d hd) fun b _ o e => up _ _ e) hg hs fun c o c1 c2 e => up _ _ (m.keep c o (by simpa using c1) c2 e)
  · exact ⟨[], ds, [], rfl, rfl, rfl, ⟨rfl, .nil, fun _ h => by simp at h, fun d hd => Dr.over (st d hd) hs1 (S.zf d hd), hs1.1, fun c o c1 _ e => hs1.extBut _ _ (fun q => c1 (by simp [q])) e⟩, hz1, s.toks, rfl⟩
theorem next_first {ds : List (Dr prog w A n)} {z TI TO : Addr} {ys : List Value} {Q : Value → Shared → Prop} (S : Sep ds z TI TO)
    (hz : IsZip s.heap z TI TO .none) (hTI : IsTup s.heap TI (its ds)) (hTO : IsTup s.heap TO ys) (hl : ys.length = ds.length) (st : ∀ d ∈ ds, d.St i s.heap) (hi : i < n) (hsz : ds.length ≤ sizeLine)
    (hQ : ∀ xs h' tk, Row i ds xs → IsZipHeld h' z TI TO s.heap.objs.size false → (∀ d ∈ ds, d.St (i + 1) h') → IsTup h' s.heap.objs.size xs → h'.objs.size = s.heap.objs.size + 1 →
      (∀ c o, c ≠ z → c ≠ TO → (∀ d ∈ ds, c ≠ d.it) → s.heap.get? c = some o → h'.get? c = some o) → Q (.ref s.heap.objs.size) { s with heap := h', toks := tk }) :
    wpAny (model prog w) A (Builtin.«zip.__next__» ⟨[.ref z], []⟩) (fun fin s' => ∃ v, fin = .done (.ret v) ∧ Q v s') E s := by
  show wpAny _ _ (field (.ref z) 2 >>= _) _ _ _
  refine wpAny_bind (wpAny_field hz rfl (x := .bool false) rfl ?_)
  show wpAny _ _ (field (.ref z) 3 >>= _) _ _ _
  refine wpAny_bind (wpAny_field hz rfl (x := .ref TI) rfl ?_)
  refine wpAny_bind (wpAny_seqItems hTI rfl ?_)
  dsimp only
  have hne : (its ds).toArray.isEmpty = false := by
    cases ds with
    | nil => exact absurd rfl S.ne
    | cons d ds => rfl
  rw [hne]
  simp only [Bool.false_eq_true, if_false]
  refine wpAny_bind ?_
  unfold Builtin.SmallTypes.ownedTupleIsFree
  refine wpAny_bind (wpAny_field hz rfl (x := .none) rfl (wpAny_pure ?_))
  simp only [if_true]
  refine wpAny_bind (wpAny_rule ?_)
  refine wpAny_bind (wpAny_field hz rfl (x := .ref TO) rfl ?_)
  refine wpAny_bind (wpAny_setField_rec hz (by simp) fun h1 hz1 hs1 => ?_)
  replace hz1 : IsZip h1 z TI TO .ellipsis := hz1
  replace hs1 : Heap.SameBut z s.heap h1 := hs1
  refine wpAny_bind ?_
  refine wpAny_forIn_list _ (fun rest b s' => ∃ dn todo xs zs, rest = (its todo).zipIdx dn.length ∧ b.1 = none ∧ zs.length = todo.length ∧ Mid i ds [z, TO] s.heap dn todo xs s'.heap ∧ IsZip s'.heap z TI TO .ellipsis ∧ IsTup s'.heap TO (xs ++ zs) ∧ ∃ tk, s' = { s with heap := s'.heap, toks := tk }) _ ?_ ?_ _ _ ?_
  · rintro x rest ⟨b1, b2⟩ s' ⟨dn, todo, xs, zs, er, e1, e2, m, hz', ht', tk, es⟩
    cases todo with
    | nil => cases er
    | cons d todo =>
      cases zs with
      | nil => cases e2
      | cons y zs =>
      injection er with ex er
      subst ex er
      obtain rfl : b1 = none := e1
      have hd : d ∈ ds := by rw [m.eq]; simp
      have hTd : TO ≠ d.it := fun e => S.Tf d hd (e ▸ d.mem)
      have hzd : z ≠ d.it := fun e => S.zf d hd (e ▸ d.mem)
      refine wpAny_bind (wpAny_onRaise ?_)
      show wpAny _ _ (Builtin.SmallTypes.nextOf (.ref d.it) >>= _) _ _ _
      refine wpAny_bind (d.D.item i s' _ _ hi (m.st0 d List.mem_cons_self) fun x h2 tk2 hp hst hs => wpAny_pure ?_)
      have ht2 : IsTup h2 TO (xs ++ y :: zs) := hs.extBut _ _ hTd ht'
      refine wpAny_bind (wpAny_seqItems ht2 rfl ?_)
      dsimp only
      have hbig : (xs ++ y :: zs).toArray.size ≤ sizeLine := by
        rw [List.size_toArray, List.length_append, m.row.length]
        have : ds.length = dn.length + (todo.length + 1) := by rw [m.eq]; simp
        simp only [List.length_cons] at e2 ⊢
        omega
      refine wpAny_bind (wpAny_updateSeq ht2 rfl ?_ hbig (by rw [Array.size_setIfInBounds]; exact Nat.le_succ_of_le hbig))
      have hs3 : Heap.SameBut TO h2 (h2.update TO (Obj.mapSeq fun q => q.setIfInBounds dn.length x)) := Heap.SameBut.update ..
      have m2 := m.next S.pw hs hst hp
      refine wpAny_bind (wpAny_letGo (wpAny_pure ?_))
      have hlx : xs.length = dn.length := m.row.length
      refine ⟨dn ++ [d], todo, xs ++ [x], zs, by rw [List.length_append]; rfl, rfl, Nat.succ.inj e2, ⟨m2.eq, m2.row, fun e he => Dr.over (m2.st1 e he) hs3 (S.Tf e (by rw [m2.eq]; exact List.mem_append_left _ he)), fun e he => Dr.over (m2.st0 e he) hs3 (S.Tf e (by rw [m2.eq]; exact List.mem_append_right _ he)), by rw [hs3.1, m2.size], fun c o c1 c2 e => hs3.extBut _ _ (fun q => c1 (by simp [q])) (m2.keep c o c1 c2 e)⟩, hs3.extBut _ _ S.TOz.symm (hs.extBut _ _ hzd hz'), ?_, tk2, ?_⟩
      · show (h2.update TO _).get? TO = _
        rw [Heap.get?_update_self _ ht2 rfl]
        simp only [Obj.mapSeq]
        congr 2
        rw [← hlx, List.append_assoc]
        simp
      · rw [es]
  · rintro ⟨b1, b2⟩ s' ⟨dn, todo, xs, zs, er, e1, e2, m, hz', ht', tk, es⟩
    obtain rfl : b1 = none := e1
    have et : todo = [] := by
      cases todo with
      | nil => rfl
      | cons _ _ => cases er
    subst et
    have ez : zs = [] := by
      cases zs with
      | nil => rfl
      | cons _ _ => cases e2
    subst ez
    have ed : ds = dn := by rw [m.eq, List.append_nil]
    subst ed
    rw [List.append_nil] at ht'
    rw [es]
    refine wpAny_bind (wpAny_seqItems ht' rfl ?_)
    dsimp only
    refine wpAny_bind (wpAny_newTuple ?_ (by show xs.length ≤ sizeLine; rw [m.row.length]; exact hsz))
    have hg := Heap.get?_push_size s'.heap (o := { cls := .type "tuple", data := .seq xs.toArray.toList.toArray }) rfl
    have hs := Heap.size_push s'.heap { cls := .type "tuple", data := .seq xs.toArray.toList.toArray }
    have up : ∀ c o, s'.heap.get? c = some o → (s'.heap.push { cls := .type "tuple", data := .seq xs.toArray.toList.toArray }).get? c = some o := fun c o e => Heap.get?_push_of_some _ e
    have hzl : z < s'.heap.objs.size := Heap.lt_size hz'
    refine wpAny_bind ?_
    unfold Builtin.SmallTypes.ownedTupleHandOut
    dsimp only
    rw [m.size] at hg hs hzl ⊢
    have hz1 := up _ _ hz'
    generalize s'.heap.push { cls := .type "tuple", data := .seq xs.toArray.toList.toArray } = g at hg hs up hz1 ⊢
    refine wpAny_bind (wpAny_setField_rec hz1 (by simp) fun h7 hz7 hs7 => ?_)
    replace hz7 : IsZip h7 z TI TO (rawInt s.heap.objs.size) := hz7
    replace hs7 : Heap.SameBut z g h7 := hs7
    refine wpAny_setField_rec hz7 (by simp) fun h8 hz8 hs8 => ?_
    replace hs8 : Heap.SameBut z h7 h8 := hs8
    have up2 : ∀ c o, c ≠ z → s'.heap.get? c = some o → h8.get? c = some o := fun c o c1 e => hs8.extBut _ _ c1 (hs7.extBut _ _ c1 (up _ _ e))
    refine wpAny_pure ⟨_, rfl, ?_⟩
    exact hQ xs h8 tk m.row hz8 (fun d hd => d.D.frame _ _ _ (m.st1 d hd) fun b hb o e => up2 b o (fun q => S.zf d hd (q ▸ hb)) e) (hs8.extBut _ _ (Nat.ne_of_gt hzl) (hs7.extBut _ _ (Nat.ne_of_gt hzl) hg)) (by rw [hs8.1, hs7.1, hs]) fun c o c1 c2 c3 e => up2 c o c1 (m.keep c o (by simp [c1, c2]) c3 e)
  · exact ⟨[], ds, [], ys, rfl, rfl, hl, ⟨rfl, .nil, fun _ h => by simp at h, fun d hd => Dr.over (st d hd) hs1 (S.zf d hd), hs1.1, fun c o c1 _ e => hs1.extBut _ _ (fun q => c1 (by simp [q])) e⟩, hz1, hs1.extBut _ _ S.TOz hTO, s.toks, rfl⟩
theorem next_end {ds : List (Dr prog w A n)} {z TI TO : Addr} {Q : Fin → Shared → Prop} (S : Sep ds z TI TO)
    (hz : IsZip s.heap z TI TO .none ∨ ∃ T f oT, IsZipHeld s.heap z TI TO T f ∧ s.heap.get? T = some oT) (hTI : IsTup s.heap TI (its ds)) (st : ∀ d ∈ ds, d.St n s.heap)
    (hE : ∀ h' tk e, (∀ c o, c ≠ z → (∀ d ∈ ds, c ≠ d.it) → s.heap.get? c = some o → h'.get? c = some o) → (∃ o, h'.get? e = some o ∧ o.cls = .type "StopIteration") → E (.ref e) { s with heap := h', toks := tk }) :
    wpAny (model prog w) A (Builtin.«zip.__next__» ⟨[.ref z], []⟩) Q E s := by
  cases ds with
  | nil => exact absurd rfl S.ne
  | cons d ds =>
  have zd : z ∉ d.fp := S.zf d List.mem_cons_self
  have zi : z ≠ d.it := fun e => zd (e ▸ d.mem)
  rcases hz with hz | ⟨T, f, oT, hz, hT⟩
  · show wpAny _ _ (field (.ref z) 2 >>= _) _ _ _
    refine wpAny_bind (wpAny_field hz rfl (x := .bool false) rfl ?_)
    show wpAny _ _ (field (.ref z) 3 >>= _) _ _ _
    refine wpAny_bind (wpAny_field hz rfl (x := .ref TI) rfl ?_)
    refine wpAny_bind (wpAny_seqItems hTI rfl ?_)
    dsimp only
    rw [show (its (d :: ds)).toArray.isEmpty = false from rfl]
    simp only [Bool.false_eq_true, if_false]
    refine wpAny_bind ?_
    unfold Builtin.SmallTypes.ownedTupleIsFree
    refine wpAny_bind (wpAny_field hz rfl (x := .none) rfl (wpAny_pure ?_))
    simp only [if_true]
    refine wpAny_bind (wpAny_rule ?_)
    refine wpAny_bind (wpAny_field hz rfl (x := .ref TO) rfl ?_)
    refine wpAny_bind (wpAny_setField_rec hz (by simp) fun h1 hz1 hs1 => ?_)
    replace hz1 : IsZip h1 z TI TO .ellipsis := hz1
    replace hs1 : Heap.SameBut z s.heap h1 := hs1
    refine wpAny_bind ?_
    simp only [its, List.map_cons, List.zipIdx_cons, List.forIn_cons]
    refine wpAny_bind (wpAny_bind (wpAny_onRaise ?_))
    show wpAny _ _ (Builtin.SmallTypes.nextOf (.ref d.it) >>= _) _ _ { s with heap := h1 }
    refine wpAny_bind (S.fin d rfl { s with heap := h1 } _ _ (Dr.over (st d List.mem_cons_self) hs1 zd) fun q e hq he => ?_)
    replace hq : Heap.ExtBut d.it h1 q := hq
    obtain ⟨oe, hoe, hce⟩ := he
    have hzq : IsZip q z TI TO .ellipsis := hq _ _ zi hz1
    have hez : e ≠ z := fun x => by subst x; rw [hzq] at hoe; cases hoe; simp at hce
    refine wpAny_setField_rec (s := { s with heap := q }) hzq (by simp) fun q' _ hq' => ?_
    replace hq' : Heap.SameBut z q q' := hq'
    exact hE q' s.toks e (fun c o cz c1 x => hq'.extBut _ _ cz (hq _ _ (c1 d List.mem_cons_self) (hs1.extBut _ _ cz x))) ⟨oe, hq'.extBut _ _ hez hoe, hce⟩
  · show wpAny _ _ (field (.ref z) 2 >>= _) _ _ _
    refine wpAny_bind (wpAny_field hz rfl (x := .bool false) rfl ?_)
    show wpAny _ _ (field (.ref z) 3 >>= _) _ _ _
    refine wpAny_bind (wpAny_field hz rfl (x := .ref TI) rfl ?_)
    refine wpAny_bind (wpAny_seqItems hTI rfl ?_)
    dsimp only
    rw [show (its (d :: ds)).toArray.isEmpty = false from rfl]
    simp only [Bool.false_eq_true, if_false]
    refine wpAny_bind (wpAny_tupleHeld_zip hz hT fun h1 hz1 hs1 => ?_)
    simp only [Bool.false_eq_true, if_false]
    refine wpAny_bind ?_
    rw [← Array.forIn_toList]
    simp only [its, List.map_cons, List.forIn_cons]
    refine wpAny_bind (wpAny_bind (wpAny_holding ?_))
    show wpAny _ _ (Builtin.SmallTypes.nextOf (.ref d.it) >>= _) _ _ { s with heap := h1 }
    refine wpAny_bind (S.fin d rfl { s with heap := h1 } _ _ (Dr.over (st d List.mem_cons_self) hs1 zd) fun q e hq he => ?_)
    replace hq : Heap.ExtBut d.it h1 q := hq
    exact hE q s.toks e (fun c o cz c1 x => hq _ _ (c1 d List.mem_cons_self) (hs1.extBut _ _ cz x)) he
end
section
variable {prog : Program} {w : World} {A : Around} {E : Value → Shared → Prop} {s : Shared} {n i : Nat}
/-- a zip at turn i, L an address that it has nothing to do with -/
structure Zi (ds : List (Dr prog w A n)) (z TI TO L : Addr) (i : Nat) (h : Heap) : Prop where
  hTI : IsTup h TI (its ds)
  st : ∀ d ∈ ds, d.St i h
  z : (IsZip h z TI TO .none ∧ ∃ ys, IsTup h TO ys ∧ ys.length = ds.length) ∨ ∃ T f oT, IsZipHeld h z TI TO T f ∧ h.get? T = some oT ∧ T ≠ z ∧ (∀ d ∈ ds, T ≠ d.it) ∧ T ≠ L
theorem Zi.type {ds : List (Dr prog w A n)} {z TI TO L : Addr} (Z : Zi ds z TI TO L i s.heap) : s.TypeIs (.ref z) "zip" := by
  rcases Z.z with ⟨hz, _⟩ | ⟨T, f, oT, hz, _⟩
  · exact ⟨_, hz, rfl⟩
  · exact ⟨_, hz, rfl⟩
/-- what is not the zip's own stays -/
theorem Zi.frame {ds : List (Dr prog w A n)} {z TI TO L : Addr} {h h' : Heap} (Z : Zi ds z TI TO L i h) (hL : L ≠ z ∧ L ≠ TI ∧ L ≠ TO ∧ ∀ d ∈ ds, L ∉ d.fp) (k : ∀ b o, b ≠ L → h.get? b = some o → h'.get? b = some o) : Zi ds z TI TO L i h' := by
  refine ⟨k _ _ hL.2.1.symm Z.hTI, fun d hd => d.D.frame _ _ _ (Z.st d hd) fun b hb o e => k b o (fun q => hL.2.2.2 d hd (q ▸ hb)) e, ?_⟩
  rcases Z.z with ⟨hz, ys, h1, h2⟩ | ⟨T, f, oT, hz, h1, h2, h3, h4⟩
  · exact .inl ⟨k _ _ hL.1.symm hz, ys, k _ _ hL.2.2.1.symm h1, h2⟩
  · exact .inr ⟨T, f, oT, k _ _ hL.1.symm hz, k _ _ h4 h1, h2, h3, h4⟩
theorem pyNext_item {ds : List (Dr prog w A.in1 n)} {z TI TO L : Addr} {Q : Option Value → Shared → Prop} (S : Sep ds z TI TO) (Z : Zi ds z TI TO L i s.heap) (hi : i < n) (hsz : ds.length ≤ sizeLine) (hL : L < s.heap.objs.size)
    (hQ : ∀ xs h' tk, Row i ds xs → Zi ds z TI TO L (i + 1) h' → IsTup h' s.heap.objs.size xs → h'.objs.size = s.heap.objs.size + 1 →
      (∀ c o, c ≠ z → c ≠ TO → (∀ d ∈ ds, c ≠ d.it) → s.heap.get? c = some o → h'.get? c = some o) → Q (some (.ref s.heap.objs.size)) { s with heap := h', toks := tk }) :
    wpAny (model prog w) A (pyNext (.ref z)) Q E s := by
  have hT := Z.type
  have fresh : ∀ d ∈ ds, s.heap.objs.size ≠ d.it := fun d hd => by
    obtain ⟨o, ho⟩ := d.D.live _ _ (Z.st d hd)
    exact Nat.ne_of_gt (Heap.lt_size ho)
  have goal : wpAny (model prog w) A.in1 (Builtin.«zip.__next__» ⟨[.ref z], []⟩) (fun fin s' => ∃ v, fin = .done (.ret v) ∧ Q (some v) s') (fun _ _ => False) s := by
    rcases Z.z with ⟨hz, ys, h1, h2⟩ | ⟨T, f, oT, hz, h1, h2, h3, h4⟩
    · refine next_first (Q := fun v s' => Q (some v) s') S hz Z.hTI h1 h2 Z.st hi hsz fun xs h' tk r a1 a2 a3 a4 k => ?_
      exact hQ xs h' tk r ⟨k _ _ S.TIz S.TITO S.TIi Z.hTI, a2, .inr ⟨_, _, _, a1, a3, Nat.ne_of_gt (Heap.lt_size hz), fresh, Nat.ne_of_gt hL⟩⟩ a3 a4 k
    · refine next_held (Q := fun v s' => Q (some v) s') S hz h1 Z.hTI Z.st hi hsz fun xs h' tk r a1 a2 a3 a4 k => ?_
      exact hQ xs h' tk r ⟨k _ _ S.TIz S.TIi Z.hTI, a2, .inr ⟨_, _, _, a1, k _ _ h2 h3 h1, h2, h3, h4⟩⟩ a3 a4 fun c o c1 _ c3 e => k c o c1 c3 e
  unfold pyNext
  refine wpAny_bind (wpAny_attempt (wpAny_callSpecial?_slot (name := Str.ofString "__next__") hT F.slot_zip_next
    (wpAny_call_entry F.slot_zip_next hT F.entry_zip_next
      (wpAny_mono goal (fun fin s' hh => ?_) fun _ _ hh => False.elim hh) (F.args_zip_next_1 _))))
  obtain ⟨v, ev, hq⟩ := hh
  exact ⟨v, ev, wpAny_pure hq⟩
theorem pyNext_end {ds : List (Dr prog w A.in1 n)} {z TI TO L : Addr} {Q : Option Value → Shared → Prop} (S : Sep ds z TI TO) (Z : Zi ds z TI TO L n s.heap)
    (hQ : ∀ h' tk, (∀ c o, c ≠ z → c ≠ TO → (∀ d ∈ ds, c ≠ d.it) → s.heap.get? c = some o → h'.get? c = some o) → Q none { s with heap := h', toks := tk }) :
    wpAny (model prog w) A (pyNext (.ref z)) Q E s := by
  have hT := Z.type
  unfold pyNext
  refine wpAny_bind (wpAny_attempt (wpAny_callSpecial?_slot (name := Str.ofString "__next__") hT F.slot_zip_next
    (wpAny_call_entry F.slot_zip_next hT F.entry_zip_next (next_end S ?_ Z.hTI Z.st fun h' tk e hk he => ?_) (F.args_zip_next_1 _))))
  · rcases Z.z with ⟨hz, _⟩ | ⟨T, f, oT, hz, h1, _⟩
    · exact .inl hz
    · exact .inr ⟨T, f, oT, hz, h1⟩
  · obtain ⟨o, ho, hc⟩ := he
    refine wpAny_bind (wpAny_isInstance (T := "StopIteration") (b := true) ⟨o, ho, hc⟩ isSubtype_stop ?_)
    exact wpAny_pure (hQ _ _ fun c o c1 _ c3 e => hk c o c1 c3 e)
def Rows (ds : List (Dr prog w A n)) (off : Addr → Prop) (i : Nat) (acc : Array Value) (h : Heap) : Prop :=
  acc.size = i ∧ (∀ j, j < i → ∃ T xs, acc[j]? = some (.ref T) ∧ off T ∧ IsTup h T xs ∧ Row j ds xs) ∧ acc.toList.Nodup
theorem extend_zip {A : Around} {R : Result → Shared → Prop} {ds : List (Dr prog w A.in1.in1 n)} {z TI TO S : Addr} (D : Sep ds z TI TO) (hn : n ≤ sizeLine) (hsz : ds.length ≤ sizeLine) (hS : S ≠ z ∧ S ≠ TI ∧ S ≠ TO ∧ ∀ d ∈ ds, S ∉ d.fp) (res : Value) (s0 : Shared) :
    ∀ (k i : Nat) (s : Shared) (acc : Array Value) (c : Nat), n - i = k → i ≤ n → Zi ds z TI TO S i s.heap → s.heap.get? S = some { cls := .type "list", dict := none, data := .seq acc c, slots := #[] } →
    Rows ds (fun T => T ≠ z ∧ T ≠ TO ∧ (∀ d ∈ ds, T ≠ d.it) ∧ T ≠ S ∧ s0.heap.objs.size ≤ T) i acc s.heap → s0.heap.objs.size ≤ s.heap.objs.size → TO < s.heap.objs.size →
    Moved (S :: z :: TO :: ds.map (·.it)) (fun a b => b = a) s0 s →
    (∀ s' acc' c', Moved (S :: z :: TO :: ds.map (·.it)) (fun a b => b = a) s0 s' → s'.heap.get? S = some { cls := .type "list", dict := none, data := .seq acc' c', slots := #[] } →
      Rows ds (fun T => T ≠ z ∧ T ≠ TO ∧ (∀ d ∈ ds, T ≠ d.it) ∧ T ≠ S ∧ s0.heap.objs.size ≤ T) n acc' s'.heap → R (.ok (.ret res)) s') →
    codeAny (model prog w) A (.builtin "list.extend.loop" ⟨[.ref S, .ref z, res], []⟩) R s := by
  have hSi : ∀ d ∈ ds, S ≠ d.it := fun d hd e => hS.2.2.2 d hd (e ▸ d.mem)
  intro k
  induction k with
  | zero =>
    intro i s acc c hk hi Z hSl hacc hge hTO mv hR
    have hin : i = n := by omega
    subst hin
    refine codeAny_builtin F.entry_extend_loop ?_
    rw [Around.under_plainId F.plain_extend_loop _]
    show wpAny _ A.in1 (pyNext (.ref z) >>= _) _ _ s
    refine wpAny_bind (wpAny_with_toks (Nat.le_refl s.toks) (pyNext_end D Z fun h' tk k htk => ?_))
    refine wpAny_pure (hR _ acc c (mv.then_heap htk fun b o hb e => k b o (fun q => hb (by simp [q])) (fun q => hb (by simp [q])) (fun d hd q => hb (by rw [q]; exact List.mem_cons_of_mem _ (List.mem_cons_of_mem _ (List.mem_cons_of_mem _ (List.mem_map_of_mem hd))))) e) (k _ _ hS.1 hS.2.2.1 hSi hSl) ⟨hacc.1, fun j hj => ?_, hacc.2.2⟩)
    obtain ⟨T, xs, a1, a2, a3, a4⟩ := hacc.2.1 j hj
    exact ⟨T, xs, a1, a2, k _ _ a2.1 a2.2.1 a2.2.2.1 a3, a4⟩
  | succ k ih =>
    intro i s acc c hk hi Z hSl hacc hge hTO mv hR
    have hlt : i < n := by omega
    refine codeAny_builtin F.entry_extend_loop ?_
    rw [Around.under_plainId F.plain_extend_loop _]
    show wpAny _ A.in1 (pyNext (.ref z) >>= _) _ _ s
    refine wpAny_bind (wpAny_with_toks (Nat.le_refl s.toks) (pyNext_item D Z hlt hsz (Heap.lt_size hSl) fun xs h' tk r Z' hT hs' kp htk => ?_))
    have hSl' := kp _ _ hS.1 hS.2.2.1 hSi hSl
    have fresh : ∀ d ∈ ds, s.heap.objs.size ≠ d.it := fun d hd => by
      obtain ⟨o, ho⟩ := d.D.live _ _ (Z.st d hd)
      exact Nat.ne_of_gt (Heap.lt_size ho)
    have fz : s.heap.objs.size ≠ z := by
      rcases Z.z with ⟨hz, _⟩ | ⟨_, _, _, hz, _⟩
      · exact Nat.ne_of_gt (Heap.lt_size hz)
      · exact Nat.ne_of_gt (Heap.lt_size hz)
    have fTO : s.heap.objs.size ≠ TO := Nat.ne_of_gt hTO
    have fS : s.heap.objs.size ≠ S := Nat.ne_of_gt (Heap.lt_size hSl)
    show wpAny _ A.in1 (updateSeq S (·.push (.ref s.heap.objs.size)) >>= _) _ _ _
    refine wpAny_bind ?_
    have up : ∀ b o, b ≠ S → h'.get? b = some o → (h'.update S (Obj.mapSeq (·.push (.ref s.heap.objs.size)))).get? b = some o := fun b o hb e => (Heap.get?_update_other _ _ (Ne.symm hb)).trans e
    refine wpAny_updateSeq hSl' rfl (wpAny_pure ⟨plainId_quiet F.plain_extend_loop _, ih (i + 1) _ (acc.push (.ref s.heap.objs.size)) _ (by omega) hlt (Z'.frame hS fun b o hb e => up b o hb e) (Heap.get?_update_self _ hSl' rfl) ⟨by rw [Array.size_push, hacc.1], fun j hj => ?_, ?_⟩ ?_ ?_ ?_ hR⟩)
      (by rw [hacc.1]; omega) (by show (acc.push _).size ≤ sizeLine + 1; rw [Array.size_push, hacc.1]; omega)
    · by_cases hji : j < i
      · obtain ⟨T, ys, a1, a2, a3, a4⟩ := hacc.2.1 j hji
        refine ⟨T, ys, ?_, a2, up _ _ a2.2.2.2.1 (kp _ _ a2.1 a2.2.1 a2.2.2.1 a3), a4⟩
        rw [Array.getElem?_push, if_neg (by rw [hacc.1]; omega)]
        exact a1
      · have : j = i := by omega
        subst this
        refine ⟨_, xs, ?_, ⟨fz, fTO, fresh, fS, hge⟩, up _ _ fS hT, r⟩
        rw [Array.getElem?_push, if_pos hacc.1.symm]
    · rw [Array.toList_push, List.nodup_append]
      refine ⟨hacc.2.2, by simp, fun x hx y hy e => ?_⟩
      rw [List.mem_singleton.mp hy] at e
      obtain ⟨j, hj⟩ := List.mem_iff_getElem?.mp hx
      have hj2 : j < i := by
        have := (List.getElem?_eq_some_iff.mp hj).1
        rw [Array.length_toList, hacc.1] at this
        exact this
      obtain ⟨T, ys, a1, a2, a3, a4⟩ := hacc.2.1 j hj2
      rw [← Array.getElem?_toList, hj, e] at a1
      injection a1 with a1
      injection a1 with a1
      rw [← a1] at a3
      exact Nat.lt_irrefl _ (Heap.lt_size a3)
    · show s0.heap.objs.size ≤ (h'.update S _).objs.size
      rw [(Heap.SameBut.update ..).1, hs']
      omega
    · show TO < (h'.update S _).objs.size
      rw [(Heap.SameBut.update ..).1, hs']
      exact Nat.lt_succ_of_lt hTO
    · exact mv.then_heap htk fun b o hb e => up b o (fun q => hb (by simp [q])) (kp b o (fun q => hb (by simp [q])) (fun q => hb (by simp [q])) (fun d hd q => hb (by rw [q]; exact List.mem_cons_of_mem _ (List.mem_cons_of_mem _ (List.mem_cons_of_mem _ (List.mem_map_of_mem hd))))) e)
end
theorem newCall_zip0 (us : List Value) : checkBuiltinCall "zip.__new__" ⟨.type "zip" :: us, []⟩ = (Bind.checkCount "zip" [⟨"iterables", .varPos, false⟩, ⟨"strict", .kwOnly, false⟩] (us.length + 1 - 1) >>= fun _ => Bind.checkKeywords "zip" [⟨"strict", .kwOnly, false⟩] 0 []).onRaise (fun _ => pure ()) := by kernel_rfl
theorem count_zip (n : Nat) : Bind.checkCount "zip" [⟨"iterables", .varPos, false⟩, ⟨"strict", .kwOnly, false⟩] n = pure () := by
  unfold Bind.checkCount
  have h1 : ([⟨"iterables", .varPos, false⟩, ⟨"strict", .kwOnly, false⟩] : List Manifest.Param).filter (fun p => Bind.isPositional p && p.required) = [] := by kernel_rfl
  have h2 : ([⟨"iterables", .varPos, false⟩, ⟨"strict", .kwOnly, false⟩] : List Manifest.Param).any (·.kind == .varPos) = true := by kernel_rfl
  rw [h1, h2]
  simp only [List.length_nil, Nat.not_lt_zero, if_false, Bool.not_true, Bool.and_false, Bool.false_eq_true]
theorem newCall_zipN (us : List Value) : checkBuiltinCall "zip.__new__" ⟨.type "zip" :: us, []⟩ = pure () := by
  rw [newCall_zip0, count_zip]
  kernel_rfl
theorem typeCall_zipN (us : List Value) : checkTypeCall "zip" ⟨us, []⟩ = pure () := by kernel_rfl
theorem args_initN (a : Value) (us : List Value) : argsOk "object.__init__" ⟨a :: us, []⟩ := by
  unfold argsOk; rw [signature?_of (id := "object.__init__") (n := ['_', '_', 't', 'i', 'n', 'i', '_', '_']) (o := ['t', 'c', 'e', 'j', 'b', 'o']) (by kernel_rfl) F.owner_object]; kernel_rfl
theorem newClass_zip (us : List Value) : Builtin.SmallTypes.newClass "zip" ⟨.type "zip" :: us, []⟩ = pure (.type "zip", us) := by
  unfold Builtin.SmallTypes.newClass
  simp only [isType, sub_zip, pure_bind, Bool.not_true, Bool.false_eq_true, if_false]
section
variable {prog : Program} {w : World} {A : Around} {E : Value → Shared → Prop} {s : Shared} {n : Nat}
theorem new_zip {us : List Value} {Q : Value → Shared → Prop}
    (h : wpAny (model prog w) A (Builtin.SmallTypes.iterAll us) (fun vs s1 => vs.length ≤ sizeLine ∧ ∀ h', IsTup h' s1.heap.objs.size vs → IsTup h' (s1.heap.objs.size + 1) (vs.map fun _ => .none) → IsZip h' (s1.heap.objs.size + 2) s1.heap.objs.size (s1.heap.objs.size + 1) .none →
      h'.objs.size = s1.heap.objs.size + 3 → (∀ c o, s1.heap.get? c = some o → h'.get? c = some o) → Q (.ref (s1.heap.objs.size + 2)) { s1 with heap := h' }) E s) :
    wpAny (model prog w) A (Builtin.«zip.__new__» ⟨.type "zip" :: us, []⟩) (fun fin s' => ∃ v, fin = .done (.ret v) ∧ Q v s') E s := by
  unfold Builtin.«zip.__new__»
  refine wpAny_bind (wpAny_of_eq (newClass_zip us) ?_)
  dsimp only
  rw [if_neg (show ¬ (([] : List (Str × Value)).length > 1) from Nat.not_lt_zero _)]
  refine wpAny_bind (wpAny_mono h (fun vs s1 hh => ?_) fun _ _ z => z)
  obtain ⟨hl, hq⟩ := hh
  refine wpAny_bind (wpAny_newTuple ?_ hl)
  refine wpAny_bind (wpAny_newTuple ?_ (by rw [List.length_map]; exact hl))
  show wpAny _ _ (newObj (.type "zip") (.fields #[.none, .bool false, .bool false, .ref s1.heap.objs.size, .ref (s1.heap.push { cls := .type "tuple", data := .seq vs.toArray }).objs.size]) >>= _) _ _ _
  refine wpAny_bind (wpAny_newObj_type ?_)
  have z1 : (s1.heap.push { cls := .type "tuple", data := .seq vs.toArray }).objs.size = s1.heap.objs.size + 1 := Heap.size_push ..
  rw [z1]
  generalize hg1 : s1.heap.push { cls := .type "tuple", data := .seq vs.toArray } = g1 at z1 ⊢
  have e1 : IsTup g1 s1.heap.objs.size vs := by rw [← hg1]; exact Heap.get?_push_size _ rfl
  have k1 : ∀ c o, s1.heap.get? c = some o → g1.get? c = some o := fun c o e => by rw [← hg1]; exact Heap.get?_push_of_some _ e
  have z2 : (g1.push { cls := .type "tuple", data := .seq (vs.map fun _ => Value.none).toArray }).objs.size = s1.heap.objs.size + 2 := by rw [Heap.size_push, z1]
  have e2 : IsTup (g1.push { cls := .type "tuple", data := .seq (vs.map fun _ => Value.none).toArray }) (s1.heap.objs.size + 1) (vs.map fun _ => .none) := by rw [← z1]; exact Heap.get?_push_size _ rfl
  have k2 : ∀ c o, g1.get? c = some o → (g1.push { cls := .type "tuple", data := .seq (vs.map fun _ => Value.none).toArray }).get? c = some o := fun c o e => Heap.get?_push_of_some _ e
  generalize g1.push { cls := .type "tuple", data := .seq (vs.map fun _ => Value.none).toArray } = g2 at z2 e2 k2 ⊢
  have z3 := Heap.size_push g2 { cls := .type "zip", data := .fields #[.none, .bool false, .bool false, .ref s1.heap.objs.size, .ref (s1.heap.objs.size + 1)] }
  have e3 := Heap.get?_push_size g2 (o := { cls := .type "zip", data := .fields #[.none, .bool false, .bool false, .ref s1.heap.objs.size, .ref (s1.heap.objs.size + 1)] }) rfl
  have k3 : ∀ c o, g2.get? c = some o → (g2.push { cls := .type "zip", data := .fields #[.none, .bool false, .bool false, .ref s1.heap.objs.size, .ref (s1.heap.objs.size + 1)] }).get? c = some o := fun c o e => Heap.get?_push_of_some _ e
  refine wpAny_pure ⟨_, rfl, ?_⟩
  show Q (.ref g2.objs.size) _
  rw [z2] at z3 e3 ⊢
  exact hq _ (k3 _ _ (k2 _ _ e1)) (k3 _ _ e2) e3 z3 fun c o e => k3 _ _ (k2 _ _ (k1 _ _ e))
theorem call_zipN {us : List Value} {Q : Value → Shared → Prop}
    (h : wpAny (model prog w) A.in1.in1 (Builtin.SmallTypes.iterAll us) (fun vs s1 => vs.length ≤ sizeLine ∧ ∀ h', IsTup h' s1.heap.objs.size vs → IsTup h' (s1.heap.objs.size + 1) (vs.map fun _ => .none) → IsZip h' (s1.heap.objs.size + 2) s1.heap.objs.size (s1.heap.objs.size + 1) .none →
      h'.objs.size = s1.heap.objs.size + 3 → (∀ c o, s1.heap.get? c = some o → h'.get? c = some o) → Q (.ref (s1.heap.objs.size + 2)) { s1 with heap := h' }) E s) :
    wpAny (model prog w) A (call (.type "zip") us) Q E s := by
  refine callType_newIn F.called_zip (by decide) (typeCall_zipN _) (newCall_zipN _) (fun obj => args_initN obj _) F.entry_zip_new (S := fun A R s => wpAny (model prog w) A.in1 (Builtin.SmallTypes.iterAll us) (fun vs s1 => vs.length ≤ sizeLine ∧ ∀ h', IsTup h' s1.heap.objs.size vs → IsTup h' (s1.heap.objs.size + 1) (vs.map fun _ => .none) → IsZip h' (s1.heap.objs.size + 2) s1.heap.objs.size (s1.heap.objs.size + 1) .none →
      h'.objs.size = s1.heap.objs.size + 3 → (∀ c o, s1.heap.get? c = some o → h'.get? c = some o) → R (.ok (.ret (.ref (s1.heap.objs.size + 2)))) { s1 with heap := h' }) (fun e s1 => R (.error e) s1) s) (.of_wp fun A R s h => wpAny_mono (new_zip (Q := fun v s' => R (.ok (.ret v)) s') h) (fun fin s' hh => ?_) fun _ _ z => z) ?_
  · obtain ⟨v, e, q⟩ := hh
    exact ⟨_, e, q⟩
  · refine wpAny_mono h (fun vs s1 ⟨a, b⟩ => ⟨a, fun h' b1 b2 b3 b4 b5 => ?_⟩) fun _ _ z => z
    exact ⟨⟨_, b3, rfl⟩, b h' b1 b2 b3 b4 b5⟩
end
section
variable {prog : Program} {w : World} {A : Around} {E : Value → Shared → Prop} {s : Shared} {n : Nat}
def drL (hh : A.handled = none) (it l : Addr) (hne : l ≠ it) (items : Array Value) (hn : items.size = n) : Dr prog w A n :=
  ⟨it, [it, l], _, _, .of (hn ▸ Draws.list hh it l hne items), by simp⟩
def drT (hh : A.handled = none) (it l : Addr) (hne : l ≠ it) (items : Array Value) (hn : items.size = n) : Dr prog w A n :=
  ⟨it, [it, l], _, _, .of (hn ▸ Draws.tuple hh it l hne items), by simp⟩
theorem drL_fin (hh : A.handled = none) (it l : Addr) (hne : l ≠ it) (items : Array Value) (hn : items.size = n) : StopsI prog w A (drL (prog := prog) (w := w) hh it l hne items hn).it n (drL (prog := prog) (w := w) hh it l hne items hn).St := by
  subst hn
  exact fun s Q E st hE => (Draws.list hh it l hne items).done s Q E st hE
theorem drT_fin (hh : A.handled = none) (it l : Addr) (hne : l ≠ it) (items : Array Value) (hn : items.size = n) : StopsI prog w A (drT (prog := prog) (w := w) hh it l hne items hn).it n (drT (prog := prog) (w := w) hh it l hne items hn).St := by
  subst hn
  exact fun s Q E st hE => (Draws.tuple hh it l hne items).done s Q E st hE
/-- what is drawn are these items -/
inductive Like : List (Dr prog w A n) → List (Array Value) → Prop
  | nil : Like [] []
  | cons {d : Dr prog w A n} {ds : List (Dr prog w A n)} {x : Array Value} {xs : List (Array Value)} (h : ∀ i v, d.P i v → x[i]? = some v) (t : Like ds xs) : Like (d :: ds) (x :: xs)
theorem Like.snoc {ds : List (Dr prog w A n)} {xs : List (Array Value)} {d : Dr prog w A n} {x : Array Value} (h : Like ds xs) (q : ∀ i v, d.P i v → x[i]? = some v) : Like (ds ++ [d]) (xs ++ [x]) := by
  induction h with
  | nil => exact .cons q .nil
  | cons h t ih => exact .cons h ih
theorem Like.row {ds : List (Dr prog w A n)} {xs : List (Array Value)} (h : Like ds xs) {i : Nat} {vs : List Value} (r : Row i ds vs) : vs.map some = xs.map (·[i]?) := by
  induction h generalizing vs with
  | nil => cases r; rfl
  | cons h t ih => cases r with | cons p r => rw [List.map_cons, List.map_cons, h _ _ p, ih r]
structure Beg (ds : List (Dr prog w A n)) (B : Nat) (xs : List (Array Value)) (h : Heap) : Prop where
  lo : ∀ d ∈ ds, B ≤ d.it ∧ d.it < h.objs.size
  fp : ∀ d ∈ ds, ∀ b ∈ d.fp, b = d.it ∨ b < B
  st : ∀ d ∈ ds, d.St 0 h
  pw : ds.Pairwise (fun a b => a.it ≠ b.it)
  like : Like ds xs
  fin : ∀ d ∈ ds, StopsI prog w A d.it n d.St
theorem Beg.sep {ds : List (Dr prog w A n)} {B : Nat} {xs : List (Array Value)} {h : Heap} (b : Beg ds B xs h) : ds.Pairwise (fun a b => a.it ∉ b.fp ∧ b.it ∉ a.fp) := by
  have : ∀ (l : List (Dr prog w A n)), (∀ d ∈ l, d ∈ ds) → l.Pairwise (fun a b => a.it ≠ b.it) → l.Pairwise (fun a b => a.it ∉ b.fp ∧ b.it ∉ a.fp) := by
    intro l hl hp
    induction hp with
    | nil => exact .nil
    | @cons a l h1 h2 ih =>
      refine .cons (fun c hc => ⟨fun e => ?_, fun e => ?_⟩) (ih fun d hd => hl d (List.mem_cons_of_mem _ hd))
      · rcases b.fp c (hl c (List.mem_cons_of_mem _ hc)) _ e with q | q
        · exact h1 c hc q
        · exact Nat.lt_irrefl _ (Nat.lt_of_lt_of_le q (b.lo a (hl a List.mem_cons_self)).1)
      · rcases b.fp a (hl a List.mem_cons_self) _ e with q | q
        · exact h1 c hc q.symm
        · exact Nat.lt_irrefl _ (Nat.lt_of_lt_of_le q (b.lo c (hl c (List.mem_cons_of_mem _ hc))).1)
  exact this ds (fun d h => h) b.pw
theorem Beg.snoc {ds : List (Dr prog w A n)} {B : Nat} {xs : List (Array Value)} {h h' : Heap} (b : Beg ds B xs h) {d : Dr prog w A n} {x : Array Value} (hB : B ≤ h.objs.size) (hit : d.it = h.objs.size) (hs : h'.objs.size = h.objs.size + 1) (hf : ∀ c ∈ d.fp, c = d.it ∨ c < B) (hst : d.St 0 h') (q : ∀ i v, d.P i v → x[i]? = some v) (fi : StopsI prog w A d.it n d.St)
    (k : ∀ c o, h.get? c = some o → h'.get? c = some o) : Beg (ds ++ [d]) B (xs ++ [x]) h' := by
  refine ⟨fun e he => ?_, fun e he => ?_, fun e he => ?_, ?_, b.like.snoc q, fun e he => ?_⟩
  · rcases List.mem_append.mp he with he | he
    · exact ⟨(b.lo e he).1, by rw [hs]; exact Nat.lt_succ_of_lt (b.lo e he).2⟩
    · rw [List.mem_singleton.mp he, hit, hs]; exact ⟨hB, Nat.lt_succ_self _⟩
  · rcases List.mem_append.mp he with he | he
    · exact b.fp e he
    · rw [List.mem_singleton.mp he]; exact hf
  · rcases List.mem_append.mp he with he | he
    · exact e.D.frame _ _ _ (b.st e he) fun c _ o ho => k c o ho
    · rw [List.mem_singleton.mp he]; exact hst
  · rw [List.pairwise_append]
    refine ⟨b.pw, List.pairwise_singleton _ _, fun a ha c hc => ?_⟩
    rw [List.mem_singleton.mp hc, hit]
    exact Nat.ne_of_lt (b.lo a ha).2
  · rcases List.mem_append.mp he with he | he
    · exact b.fin e he
    · rw [List.mem_singleton.mp he]; exact fi
/-- a list or a tuple -/
def IsSeq (h : Heap) (u : Value) (x : Array Value) : Prop := ∃ a, u = .ref a ∧ (h.IsList a x ∨ h.IsTuple a x)
inductive Seqs (h : Heap) (n : Nat) : List Value → List (Array Value) → Prop
  | nil : Seqs h n [] []
  | cons {u : Value} {us : List Value} {x : Array Value} {xs : List (Array Value)} (p : IsSeq h u x) (e : x.size = n) (t : Seqs h n us xs) : Seqs h n (u :: us) (x :: xs)
theorem iterAll_seqs {A' : Around} (hh : A.handled = none) {us : List Value} {xs : List (Array Value)} {Q : List Value → Shared → Prop} (hs : Seqs s.heap n us xs)
    (hQ : ∀ (ds : List (Dr prog w A n)) h', Beg ds s.heap.objs.size xs h' → (∀ c o, s.heap.get? c = some o → h'.get? c = some o) → s.heap.objs.size ≤ h'.objs.size → Q (its ds) { s with heap := h' }) :
    wpAny (model prog w) A' (Builtin.SmallTypes.iterAll us) Q E s := by
  unfold Builtin.SmallTypes.iterAll
  refine wpAny_bind ?_
  refine wpAny_forIn_list _ (fun rest b s' => ∃ (ds : List (Dr prog w A n)) (ys zs : List (Array Value)), b = (its ds).toArray ∧ xs = ys ++ zs ∧ Seqs s.heap n rest zs ∧ Beg ds s.heap.objs.size ys s'.heap ∧ (∀ c o, s.heap.get? c = some o → s'.heap.get? c = some o) ∧ s.heap.objs.size ≤ s'.heap.objs.size ∧ s' = { s with heap := s'.heap }) _ ?_ ?_ _ _ ?_
  · rintro u rest b s' ⟨ds, ys, zs, rfl, ex, hr, hb, hk, hge, es⟩
    cases hr with
    | @cons _ _ x zs p e t =>
      refine wpAny_bind (wpAny_holding ?_)
      obtain ⟨a, rfl, p⟩ := p
      rcases p with hl | ht
      · have hlt : a < s.heap.objs.size := let ⟨o, ho, _⟩ := hl; Heap.lt_size ho
        have hl' : s'.heap.IsList a x := hl.at fun o e => hk _ o e
        refine wpAny_pyIter_list hl' ?_
        refine wpAny_pure ?_
        refine ⟨ds ++ [drL hh s'.heap.objs.size a (Nat.ne_of_lt (Nat.lt_of_lt_of_le hlt hge)) x e], ys ++ [x], zs, by simp [its, drL], by rw [ex, List.append_assoc]; rfl, t, hb.snoc (h' := (s'.heap.push { cls := .type "list_iterator", data := .fields #[.ref a, .int 0 0] })) hge rfl (Heap.size_push ..) (fun c hc => ?_) ⟨⟨_, Heap.get?_push_size _ rfl, rfl, rfl⟩, hl'.push _⟩ (fun i v h => h) (drL_fin _ _ _ _ _ _) (fun c o e => Heap.get?_push_of_some _ e), fun c o e => Heap.get?_push_of_some _ (hk c o e), ?_, ?_⟩
        · rcases List.mem_cons.mp hc with q | q
          · exact .inl q
          · exact .inr (by rw [List.mem_singleton.mp q]; exact hlt)
        · show s.heap.objs.size ≤ (s'.heap.push _).objs.size
          rw [Heap.size_push]; exact Nat.le_succ_of_le hge
        · rw [es]
      · have hlt : a < s.heap.objs.size := let ⟨o, ho, _⟩ := ht; Heap.lt_size ho
        have ht' : s'.heap.IsTuple a x := ht.at fun o e => hk _ o e
        refine wpAny_pyIter_tuple ht' ?_
        refine wpAny_pure ?_
        refine ⟨ds ++ [drT hh s'.heap.objs.size a (Nat.ne_of_lt (Nat.lt_of_lt_of_le hlt hge)) x e], ys ++ [x], zs, by simp [its, drT], by rw [ex, List.append_assoc]; rfl, t, hb.snoc (h' := (s'.heap.push { cls := .type "tuple_iterator", data := .fields #[.ref a, .int 0 0] })) hge rfl (Heap.size_push ..) (fun c hc => ?_) ⟨⟨_, Heap.get?_push_size _ rfl, rfl, rfl⟩, ht'.at fun o e => Heap.get?_push_of_some _ e⟩ (fun i v h => h) (drT_fin _ _ _ _ _ _) (fun c o e => Heap.get?_push_of_some _ e), fun c o e => Heap.get?_push_of_some _ (hk c o e), ?_, ?_⟩
        · rcases List.mem_cons.mp hc with q | q
          · exact .inl q
          · exact .inr (by rw [List.mem_singleton.mp q]; exact hlt)
        · show s.heap.objs.size ≤ (s'.heap.push _).objs.size
          rw [Heap.size_push]; exact Nat.le_succ_of_le hge
        · rw [es]
  · rintro b s' ⟨ds, ys, zs, rfl, ex, hr, hb, hk, hge, es⟩
    cases hr
    rw [List.append_nil] at ex
    subst ex
    rw [es]
    refine wpAny_pure ?_
    rw [List.toList_toArray]
    exact hQ ds _ hb hk hge
  · exact ⟨[], [], xs, rfl, rfl, hs, ⟨fun _ h => by simp at h, fun _ h => by simp at h, fun _ h => by simp at h, .nil, .nil, fun _ h => by simp at h⟩, fun _ _ e => e, Nat.le_refl _, rfl⟩
end
end ZpR
set_option maxHeartbeats 4000000
namespace ZpR
open PySem PySem.Spec PyProof.Rows
theorem zip_no_len : typeLookup (.type "zip") "__len__" = pure none := by rw [typeLookup_type, builtinLookup_eq_fast]; kernel_rfl
theorem zip_no_hint : typeLookup (.type "zip") "__length_hint__" = pure none := by rw [typeLookup_type, builtinLookup_eq_fast]; kernel_rfl
section
variable {prog : Program} {w : World} {A : Around} {E : Value → Shared → Prop} {s : Shared} {n : Nat}
theorem pyIter_zip {ds : List (Dr prog w A n)} {z TI TO L : Addr} {i : Nat} {A' : Around} {Q : Value → Shared → Prop} (Z : Zi ds z TI TO L i s.heap) (h : Q (.ref z) s) : wpAny (model prog w) A' (pyIter (.ref z)) Q E s := by
  have hT := Z.type
  refine wpAny_pyIter_slot hT F.slot_zip_iter (wpAny_call_entry F.slot_zip_iter hT F.entry_zip_iter ?_ (F.args_zip_iter_1 _))
  show wpAny _ _ (ret (.ref z)) _ _ s
  exact wpAny_pure ⟨_, rfl, "zip", _, hT, F.slot_zip_next.lookup, h⟩
/-- list(a zip that was made) -/
theorem call_list_zip {ds : List (Dr prog w A.in1.in1.in1 n)} {z TI TO : Addr} {Q' : Value → Shared → Prop} (D : Sep ds z TI TO) (hn : n ≤ sizeLine) (hsz : ds.length ≤ sizeLine)
    (hTI : IsTup s.heap TI (its ds)) (st : ∀ d ∈ ds, d.St 0 s.heap) (hz : IsZip s.heap z TI TO .none) {ys : List Value} (hTO : IsTup s.heap TO ys) (hys : ys.length = ds.length) (hfp : ∀ d ∈ ds, ∀ b ∈ d.fp, b < s.heap.objs.size)
    (hQ : ∀ S s' acc c, s.heap.objs.size ≤ S → s'.heap.get? S = some { cls := .type "list", dict := none, data := .seq acc c, slots := #[] } → Rows ds (fun T => T ≠ S ∧ s.heap.objs.size ≤ T) n acc s'.heap →
      Moved (z :: TO :: ds.map (·.it)) (fun a b => b = a) s s' → Q' (.ref S) s') :
    wpAny (model prog w) A (call (.type "list") [.ref z]) Q' E s := by
  have lt : ∀ {b o}, s.heap.get? b = some o → s.heap.objs.size ≠ b := fun e => Nat.ne_of_gt (Heap.lt_size e)
  have hS : s.heap.objs.size ≠ z ∧ s.heap.objs.size ≠ TI ∧ s.heap.objs.size ≠ TO ∧ ∀ d ∈ ds, s.heap.objs.size ∉ d.fp := ⟨lt hz, lt hTI, lt hTO, fun d hd q => Nat.lt_irrefl _ (hfp d hd _ q)⟩
  have Z0 : Zi ds z TI TO s.heap.objs.size 0 s.heap := ⟨hTI, st, .inl ⟨hz, ys, hTO, hys⟩⟩
  refine callType_codes (Q₁ := fun obj s₁ => obj = .ref s.heap.objs.size ∧ s₁ = { s with heap := s.heap.push { cls := .type "list", data := .seq #[] } }) F.called_list (F.typeCall_list_1 _) F.entry_list_init
    (code_list_new _ ⟨rfl, rfl⟩) fun obj s₁ h₁ => ?_
  obtain ⟨rfl, rfl⟩ := h₁
  have hS1 : (s.heap.push { cls := .type "list", data := .seq #[] }).get? s.heap.objs.size = some { cls := .type "list", data := .seq #[] } := Heap.get?_push_size _ rfl
  refine ⟨⟨_, hS1, rfl⟩, F.args_list_init_2 _ _, ?_⟩
  show wpAny _ A.in1.in1 (do let old ← Builtin.List.listItems (.ref s.heap.objs.size); Builtin.List.listUpdate (.ref s.heap.objs.size) (fun _ => #[]); letGo old.toList.reverse; Builtin.List.listExtendWith (.ref s.heap.objs.size) (.ref z) .none) _ _ _
  refine wpAny_bind ?_
  unfold Builtin.List.listItems
  refine wpAny_bind (wpAny_seqItems hS1 rfl (wpAny_pure ?_))
  show wpAny _ A.in1.in1 (updateSeq s.heap.objs.size (fun _ => #[]) >>= fun _ => letGo (#[] : Array Value).toList.reverse >>= fun _ => Builtin.List.listExtendWith (.ref s.heap.objs.size) (.ref z) .none) _ _ _
  refine wpAny_bind (wpAny_updateSeq hS1 rfl ?_)
  have hS2 := Heap.get?_update_self (Obj.mapSeq (fun _ => (#[] : Array Value))) hS1 rfl
  refine wpAny_bind (wpAny_letGo ?_)
  unfold Builtin.List.listExtendWith
  have up : ∀ (h : Heap) (f : Obj → Obj), (∀ b o, s.heap.get? b = some o → h.get? b = some o) → ∀ b o, s.heap.get? b = some o → (h.update s.heap.objs.size f).get? b = some o := fun h f q b o e =>
    (Heap.get?_update_other _ _ (Ne.symm (Nat.ne_of_lt (Heap.lt_size e)))).trans (q b o e)
  have k1 : ∀ b o, s.heap.get? b = some o → (s.heap.push { cls := .type "list", data := .seq #[] }).get? b = some o := fun b o e => Heap.get?_push_of_some _ e
  have k2 := up _ (Obj.mapSeq (fun _ => (#[] : Array Value))) k1
  have zz : ∀ {h : Heap}, (∀ b o, s.heap.get? b = some o → h.get? b = some o) → Zi ds z TI TO s.heap.objs.size 0 h := fun {h} q => Z0.frame hS fun b o _ e => q b o e
  refine wpAny_bind (wpAny_typeOf (Zi.type (s := { s with heap := _ }) (zz k2)) ?_)
  have h1 : Builtin.List.listSameRef (.ref s.heap.objs.size) (.ref z) = false := by simp [Builtin.List.listSameRef, hS.1]
  have h2 : (Value.type "zip" == Value.type "list") = false := by decide
  have h3 : (Value.type "zip" == Value.type "tuple") = false := by decide
  simp only [h1, h2, h3, Bool.or_false, Bool.false_eq_true, if_false]
  refine wpAny_bind (pyIter_zip (s := { s with heap := _ }) (zz k2) ?_)
  refine wpAny_bind (wpAny_holding ?_)
  unfold Builtin.List.listLengthHint
  refine wpAny_bind (wpAny_specialOf (Zi.type (s := { s with heap := _ }) (zz k2)) zip_no_len ?_)
  show wpAny _ A.in1.in1 (specialOf (Value.ref z) (Str.ofString "__length_hint__") >>= _) _ _ _
  refine wpAny_bind (wpAny_specialOf (Zi.type (s := { s with heap := _ }) (zz k2)) zip_no_hint ?_)
  refine wpAny_pure ?_
  show wpAny _ A.in1.in1 (rule "list.extend.makes-room" >>= fun _ => Builtin.List.listTouch (.ref s.heap.objs.size) >>= fun _ =>
    again (.builtin "list.extend.loop" ⟨[.ref s.heap.objs.size, .ref z, .none], []⟩)) _ _ _
  refine wpAny_bind (wpAny_rule ?_)
  refine wpAny_bind ?_
  show wpAny _ A.in1.in1 (updateSeq s.heap.objs.size (·.push .none) >>= fun _ => updateSeq s.heap.objs.size (·.pop)) _ _ _
  refine wpAny_bind (wpAny_updateSeq hS2 rfl ?_)
  have hS3 := Heap.get?_update_self (Obj.mapSeq (·.push Value.none)) hS2 rfl
  refine wpAny_updateSeq (hz := by seq_fits) hS3 rfl ?_
  have hS4 := Heap.get?_update_self (Obj.mapSeq (·.pop)) hS3 rfl
  have k4 := up _ (Obj.mapSeq (·.pop)) (up _ (Obj.mapSeq (·.push Value.none)) k2)
  refine wpAny_pure ⟨plainId_quiet F.plain_extend_loop _, ?_⟩
  have hge : s.heap.objs.size ≤ ((((s.heap.push { cls := .type "list", data := .seq #[] }).update s.heap.objs.size (Obj.mapSeq fun x => #[])).update s.heap.objs.size (Obj.mapSeq fun x => x.push Value.none)).update s.heap.objs.size (Obj.mapSeq fun x => x.pop)).objs.size := by
    rw [(Heap.SameBut.update ..).1, (Heap.SameBut.update ..).1, (Heap.SameBut.update ..).1, Heap.size_push]
    exact Nat.le_succ _
  refine extend_zip (A := A.in1) (ds := ds) D hn hsz hS .none s n 0 _ _ _ rfl (Nat.zero_le _) (zz k4) hS4 ⟨rfl, fun j hj => absurd hj (Nat.not_lt_zero _), List.nodup_nil⟩ hge (Nat.lt_of_lt_of_le (Heap.lt_size hTO) hge) ⟨fun b o _ e => k4 b o e, rfl, rfl, rfl, Nat.le_refl _⟩ fun s' acc c' hm hS' hr => ?_
  refine ⟨rfl, hQ _ s' acc c' (Nat.le_refl _) hS' ⟨hr.1, fun j hj => ?_, hr.2.2⟩ ⟨fun b o hb e => hm.heap b o (fun q => ?_) e, hm.gens, hm.drawn, hm.os, hm.toks⟩⟩
  · obtain ⟨T, xs, a1, a2, a3, a4⟩ := hr.2.1 j hj
    exact ⟨T, xs, a1, a2.2.2.2, a3, a4⟩
  · rcases List.mem_cons.mp q with q | q
    · exact lt e q.symm
    · exact hb q
/-- what list(zip(..)) holds: row j has item j of each -/
def ZRows (n : Nat) (xs : List (Array Value)) (S B : Addr) (acc : Array Value) (h : Heap) : Prop :=
  acc.size = n ∧ (∀ j, j < n → ∃ T vs, acc[j]? = some (.ref T) ∧ T ≠ S ∧ B ≤ T ∧ IsTup h T vs ∧ vs.map some = xs.map (·[j]?)) ∧ acc.toList.Nodup
theorem Seqs.length {h : Heap} {us : List Value} {xs : List (Array Value)} (p : Seqs h n us xs) : us.length = xs.length := by
  induction p with
  | nil => rfl
  | cons p e t ih => simp [ih]
theorem Like.length {ds : List (Dr prog w A n)} {xs : List (Array Value)} (p : Like ds xs) : ds.length = xs.length := by
  induction p with
  | nil => rfl
  | cons p t ih => simp [ih]
theorem list_zip {us : List Value} {xs : List (Array Value)} {Q : Value → Shared → Prop} (hh : A.handled = none) (hs : Seqs s.heap n us xs) (hne : us ≠ []) (hl : us.length ≤ sizeLine) (hn : n ≤ sizeLine)
    (hQ : ∀ S s' acc c, s.heap.objs.size ≤ S → s'.heap.get? S = some { cls := .type "list", dict := none, data := .seq acc c, slots := #[] } → ZRows n xs S s.heap.objs.size acc s'.heap → Moved [] (fun a b => b = a) s s' → Q (.ref S) s') :
    wpAny (model prog w) A (call (.type "zip") us) (fun v s1 => wpAny (model prog w) A (call (.type "list") [v]) Q E s1) E s := by
  have hh3 : A.in1.in1.in1.handled = none := hh
  refine call_zipN (iterAll_seqs hh3 hs fun ds h' hb hk hge => ?_)
  have hlen : ds.length = us.length := by rw [hb.like.length, hs.length]
  have hil : (its ds).length = ds.length := by simp [its]
  refine ⟨by rw [hil, hlen]; exact hl, fun h2 t1 t2 z hsz k2 => ?_⟩
  have hsz1 : h2.objs.size = h'.objs.size + 3 := hsz
  have lo : ∀ d ∈ ds, d.it < h'.objs.size := fun d hd => (hb.lo d hd).2
  have fpl : ∀ d ∈ ds, ∀ b ∈ d.fp, b < h'.objs.size := fun d hd b hbm => by
    rcases hb.fp d hd b hbm with q | q
    · rw [q]; exact lo d hd
    · exact Nat.lt_of_lt_of_le q hge
  have notin : ∀ k, ∀ d ∈ ds, h'.objs.size + k ∉ d.fp := fun k d hd q => absurd (fpl d hd _ q) (Nat.not_lt.mpr (Nat.le_add_right _ _))
  have D : Sep ds (h'.objs.size + 2) h'.objs.size (h'.objs.size + 1) := by
    refine ⟨notin 2, fun d hd e => ?_, notin 1, hb.sep, ?_, ?_, ?_, fun e => ?_, fun d hd => hb.fin d (List.mem_of_head? hd)⟩
    · exact Nat.lt_irrefl _ (e ▸ lo d hd)
    · exact Nat.ne_of_lt (Nat.lt_add_of_pos_right (by decide))
    · exact Nat.ne_of_lt (Nat.lt_succ_self _)
    · exact Nat.ne_of_lt (Nat.lt_succ_self _)
    · rw [e] at hlen
      exact hne (List.length_eq_zero_iff.mp hlen.symm)
  refine call_list_zip (s := { s with heap := h2 }) D hn (by rw [hlen]; exact hl) t1 (fun d hd => d.D.frame _ _ _ (hb.st d hd) fun b _ o e => k2 b o e) z t2 (by rw [List.length_map, hil]) (fun d hd b hbm => ?_) fun S s' acc c q1 q2 q3 q4 => ?_
  · show b < h2.objs.size
    rw [hsz1]
    exact Nat.lt_of_lt_of_le (fpl d hd b hbm) (Nat.le_add_right _ _)
  · have hge2 : s.heap.objs.size ≤ h2.objs.size := by
      rw [hsz1]
      exact Nat.le_trans hge (Nat.le_add_right _ _)
    refine hQ S s' acc c (Nat.le_trans hge2 q1) q2 ⟨q3.1, fun j hj => ?_, q3.2.2⟩ ⟨fun b o _ e => ?_, q4.gens, q4.drawn, q4.os, q4.toks⟩
    · obtain ⟨T, vs, a1, a2, a3, a4⟩ := q3.2.1 j hj
      exact ⟨T, vs, a1, a2.1, Nat.le_trans hge2 a2.2, a3, hb.like.row a4⟩
    · refine q4.heap b o (fun q => ?_) (k2 b o (hk b o e))
      have hlt := Heap.lt_size e
      rcases List.mem_cons.mp q with q | q
      · rw [q] at hlt
        exact absurd (Nat.lt_of_lt_of_le hlt hge) (Nat.not_lt.mpr (Nat.le_add_right _ _))
      · rcases List.mem_cons.mp q with q | q
        · rw [q] at hlt
          exact absurd (Nat.lt_of_lt_of_le hlt hge) (Nat.not_lt.mpr (Nat.le_add_right _ _))
        · obtain ⟨d, hd, e2⟩ := List.mem_map.mp q
          rw [← e2] at hlt
          exact absurd hlt (Nat.not_lt.mpr (hb.lo d hd).1)
end
open L2
section
variable {P : Program} {w : World} {H H' : Hp} {h h' : Heap} {fs : List Addr}
theorem un_many (k : ∀ b u, h.get? b = some u → h'.get? b = some u) (hc : ∀ b, b < h.objs.size → H' b = H b) (hx : ∀ b o, H b = some o → H' b = some o) : Un fs [] H H' h h' where
  keep := fun b u q _ _ _ => k b u q
  slot := fun b u q _ _ _ => ⟨u.slots, k b u q⟩
  free := fun b u q n _ => by rw [hc b (Heap.lt_size q)]; exact n
  there := fun b u q _ => ⟨u, k b u q⟩
  tups := fun b xs q => hx b _ q
  frzs := fun b u xs q => hx b _ q
  tbls := fun b ps q => ⟨#[], by rw [hx b _ q]; simp⟩
theorem hok_many (x : HOk P w H h) (k : ∀ b u, h.get? b = some u → h'.get? b = some u) (hx : ∀ b o, H b = some o → H' b = some o) (hn : ∀ b o, H' b = some o → H b = some o ∨ ObjOk P w H' h' b o) : HOk P w H' h' := fun b u e => by
  rcases hn b u e with q | q
  · exact (x b u q).stay (fun c v _ q => k c v q) (fun c q => hx c _ q) fun c xs q => hx c _ q
  · exact q
end
/-- tuples laid -/
def layR : Hp → List Addr → List (List V) → Hp
  | H, t :: ts, r :: rs => layR (upd H t (.tup r)) ts rs
  | H, _, _ => H
theorem layR_out {b : Addr} : ∀ {ts : List Addr} {rs : List (List V)} {H : Hp}, b ∉ ts → layR H ts rs b = H b
  | [], _, _, _ => by simp [layR]
  | _ :: _, [], _, _ => by simp [layR]
  | t :: ts, r :: rs, H, h => by
    rw [layR, layR_out (fun q => h (List.mem_cons_of_mem _ q)), upd_ne (fun q => h (by rw [q]; exact List.mem_cons_self))]
theorem layR_at : ∀ {ts : List Addr} {rs : List (List V)} {H : Hp} {j : Nat} {t : Addr} {r : List V}, ts.Nodup → ts[j]? = some t → rs[j]? = some r → layR H ts rs t = some (.tup r)
  | [], _, _, _, _, _, _, h, _ => by simp at h
  | _ :: _, [], _, _, _, _, _, _, h => by simp at h
  | t :: ts, r :: rs, H, 0, t', r', nd, h1, h2 => by
    injection h1 with h1
    injection h2 with h2
    subst h1 h2
    rw [layR, layR_out (List.nodup_cons.mp nd).1, upd_same]
  | t :: ts, r :: rs, H, j + 1, t', r', nd, h1, h2 => by
    rw [layR]
    exact layR_at (List.nodup_cons.mp nd).2 h1 h2
/-- the turned table: row j has item j of each -/
def turnR (n : Nat) (xs : List (List V)) : List (List V) := (List.range n).map fun j => xs.filterMap fun x => x[j]?
/-- a list or a tuple, all of one length -/
inductive SeqsV (K : PySem.W.Frag) (H : Hp) (n : Nat) : List V → List (List V) → Prop
  | nil : SeqsV K H n [] []
  | cons {a : Addr} {vs : List V} {x : List V} {xs : List (List V)} (p : SqL K H a x ∨ SqT K H a x) (e : x.length = n) (t : SeqsV K H n vs xs) : SeqsV K H n (V.ref a :: vs) (x :: xs)
inductive VsRows : List (List V) → List (Array Value) → Prop
  | nil : VsRows [] []
  | cons {x : List V} {x' : Array Value} {xs : List (List V)} {xs' : List (Array Value)} (h : Vals x x'.toList) (t : VsRows xs xs') : VsRows (x :: xs) (x' :: xs')
section
variable {X : Cx} {pins : List (Addr × Obj)} {σ : L2.St} {H : Hp} {s : Shared} {n : Nat}
theorem seqs_of (I : Inv X pins σ H s) {vs : List V} {xs : List (List V)} (h : SeqsV X.K H n vs xs) : ∀ {us : List Value}, Vals vs us → ∃ xs', Seqs s.heap n us xs' ∧ VsRows xs xs' := by
  induction h with
  | nil => intro us r; cases r; exact ⟨[], .nil, .nil⟩
  | @cons a vs x xs p e t ih =>
    intro us r
    cases r with
    | @cons _ u _ us ra r =>
      obtain rfl : u = Value.ref a := ra
      obtain ⟨xs', h1, h2⟩ := ih r
      rcases p with p | p
      · obtain ⟨its, r', pl, hz⟩ := I.list p
        obtain ⟨o, ho, hc, m, hd⟩ := pl.isList
        exact ⟨its.toArray :: xs', .cons ⟨a, rfl, .inl ⟨o, ho, hc, m, hd⟩⟩ (by rw [List.size_toArray, ← r'.length, e]) h1, .cons (by simpa using r') h2⟩
      · obtain ⟨its, r', pl, hz⟩ := I.tuple p
        obtain ⟨o, ho, hc, m, hd⟩ := pl
        exact ⟨its.toArray :: xs', .cons ⟨a, rfl, .inr ⟨o, ho, hc, m, hd⟩⟩ (by rw [List.size_toArray, ← r'.length, e]) h1, .cons (by simpa using r') h2⟩
theorem vals_at {xs : List V} {us : List Value} (r : Vals xs us) (j : Nat) : (xs[j]? = none ∧ us[j]? = none) ∨ ∃ x u, xs[j]? = some x ∧ us[j]? = some u ∧ RelV x u := by
  induction r generalizing j with
  | nil => exact .inl ⟨by simp, by simp⟩
  | @cons x u xs us a r ih =>
    cases j with
    | zero => exact .inr ⟨x, u, rfl, rfl, a⟩
    | succ j => simpa using ih j
theorem vsRows_col {xs : List (List V)} {xs' : List (Array Value)} (h : VsRows xs xs') (j : Nat) (hj : ∀ x ∈ xs, j < x.length) : ∀ {vs : List Value}, vs.map some = xs'.map (·[j]?) → Vals (xs.filterMap fun x => x[j]?) vs := by
  induction h with
  | nil =>
    intro vs e
    have : vs = [] := by simpa using e
    subst this
    exact .nil
  | @cons x x' xs xs' h t ih =>
    intro vs e
    cases vs with
    | nil => simp at e
    | cons v vs =>
      rw [List.map_cons, List.map_cons] at e
      injection e with e1 e2
      rcases vals_at h j with ⟨q, _⟩ | ⟨y, u, q1, q2, q3⟩
      · have := hj x List.mem_cons_self
        rw [List.getElem?_eq_none_iff] at q
        omega
      · rw [Array.getElem?_toList] at q2
        rw [q2] at e1
        injection e1 with e1
        rw [List.filterMap_cons, q1]
        subst e1
        exact .cons q3 (ih (fun z hz => hj z (List.mem_cons_of_mem _ hz)) e2)
theorem seqsV_len {K : PySem.W.Frag} {vs : List V} {xs : List (List V)} (h : SeqsV K H n vs xs) : vs.length = xs.length ∧ ∀ x ∈ xs, x.length = n := by
  induction h with
  | nil => exact ⟨rfl, fun _ h => by simp at h⟩
  | cons p e t ih =>
    refine ⟨by simp [ih.1], fun z hz => ?_⟩
    rcases List.mem_cons.mp hz with q | q
    · rw [q]; exact e
    · exact ih.2 z q
/-- what stands behind list(zip(..)) -/
theorem zip_in {vs : List V} {us : List Value} {xs : List (List V)} {Q : VK} (hcalm : X.calm = true) (I : Inv X pins σ H s) (r : Vals vs us) (h : SeqsV X.K H n vs xs) (hne : vs ≠ []) (hl : vs.length ≤ sizeLine) (hn : n ≤ sizeLine)
    (hQ : ∀ (ts : List Addr) (l : Addr), ts.length = n → ts.Nodup → (∀ t ∈ ts, H t = none) → H l = none → l ∉ ts → Q (.ref l) (upd (layR H ts (turnR n xs)) l (.lst (ts.map V.ref)))) :
    wpAny (model X.prog X.w) X.A (call (.type "zip") us) (fun v s1 => wpAny (model X.prog X.w) X.A (call (.type "list") [v]) (EP X pins σ Q) X.xe s1) X.xe s := by
  obtain ⟨xs', h1, h2⟩ := seqs_of I h r
  have hlen := r.length
  refine list_zip (I.ok.hd hcalm) h1 (fun e => hne (by rw [e] at hlen; exact List.length_eq_zero_iff.mp hlen)) (by rw [← hlen]; exact hl) hn fun S s' acc c q1 q2 q3 q4 => ?_
  obtain ⟨z1, z2, z3⟩ := q3
  have hts : ∃ ts : List Addr, acc.toList = ts.map Value.ref := by
    have : ∀ l : List Value, (∀ v ∈ l, ∃ T, v = Value.ref T) → ∃ ts : List Addr, l = ts.map Value.ref := by
      intro l
      induction l with
      | nil => exact fun _ => ⟨[], rfl⟩
      | cons v l ih =>
        intro hv
        obtain ⟨T, e⟩ := hv v List.mem_cons_self
        obtain ⟨ts, e2⟩ := ih fun u hu => hv u (List.mem_cons_of_mem _ hu)
        exact ⟨T :: ts, by rw [e, e2]; rfl⟩
    refine this _ fun v hv => ?_
    obtain ⟨j, hj⟩ := List.mem_iff_getElem?.mp hv
    have hj2 : j < n := by
      have := (List.getElem?_eq_some_iff.mp hj).1
      rw [Array.length_toList, z1] at this
      exact this
    obtain ⟨T, ws, a1, _⟩ := z2 j hj2
    rw [← Array.getElem?_toList, hj] at a1
    exact ⟨T, by injection a1⟩
  obtain ⟨ts, hts⟩ := hts
  have htl : ts.length = n := by rw [← z1, ← Array.length_toList, hts, List.length_map]
  have hnd : ts.Nodup := by
    rw [hts] at z3
    exact (List.pairwise_map.mp z3).imp fun h e => h (by rw [e])
  have at_ : ∀ (j : Nat) (t : Addr), ts[j]? = some t → t ≠ S ∧ s.heap.objs.size ≤ t ∧ ∃ ws, IsTup s'.heap t ws ∧ Vals (xs.filterMap fun (x : List V) => x[j]?) ws := by
    intro j t e
    have hj : j < n := by rw [← htl]; exact (List.getElem?_eq_some_iff.mp e).1
    obtain ⟨T, ws, a1, a2, a3, a4, a5⟩ := z2 j hj
    rw [← Array.getElem?_toList, hts, List.getElem?_map, e] at a1
    injection a1 with a1
    injection a1 with a1
    subst a1
    exact ⟨a2, a3, ws, a4, vsRows_col h2 j (fun x hx => by rw [(seqsV_len h).2 x hx]; exact hj) a5⟩
  have mem_ : ∀ t ∈ ts, t ≠ S ∧ s.heap.objs.size ≤ t := fun t ht => by
    obtain ⟨j, hj⟩ := List.mem_iff_getElem?.mp ht
    exact ⟨(at_ j t hj).1, (at_ j t hj).2.1⟩
  have hS : S ∉ ts := fun q => (mem_ S q).1 rfl
  have hrows : (turnR n xs).length = n := by simp [turnR]
  have hx : ∀ b o, H b = some o → upd (layR H ts (turnR n xs)) S (.lst (ts.map V.ref)) b = some o := fun b o e => by
    have hb : b < s.heap.objs.size := (I.hok b o e).lt
    rw [upd_ne (Nat.ne_of_lt (Nat.lt_of_lt_of_le hb q1)), layR_out (fun q => Nat.lt_irrefl _ (Nat.lt_of_lt_of_le hb (mem_ b q).2))]
    exact e
  have un : Un X.fs [] H (upd (layR H ts (turnR n xs)) S (.lst (ts.map V.ref))) s.heap s'.heap := un_many (fun b u e => q4.heap b u (by simp) e) (fun b hb => by
    rw [upd_ne (Nat.ne_of_lt (Nat.lt_of_lt_of_le hb q1)), layR_out (fun q => Nat.lt_irrefl _ (Nat.lt_of_lt_of_le hb (mem_ b q).2))]) hx
  have hok : HOk X.prog X.w (upd (layR H ts (turnR n xs)) S (.lst (ts.map V.ref))) s'.heap := by
    refine hok_many I.hok (fun b u e => q4.heap b u (by simp) e) hx fun b o e => ?_
    by_cases hb : b = S
    · subst hb
      rw [upd_same] at e
      injection e with e
      subst e
      refine .inr ⟨by rw [List.length_map, htl]; exact hn, ts.map Value.ref, c, L2.vals_refs _, ?_⟩
      rw [← hts, Array.toArray_toList]
      exact q2
    · rw [upd_ne hb] at e
      by_cases hm : b ∈ ts
      · obtain ⟨j, hj⟩ := List.mem_iff_getElem?.mp hm
        have hjn : j < n := by rw [← htl]; exact (List.getElem?_eq_some_iff.mp hj).1
        have hr : (turnR n xs)[j]? = some (xs.filterMap fun (x : List V) => x[j]?) := by
          rw [turnR, List.getElem?_map, List.getElem?_range hjn]; rfl
        rw [layR_at hnd hj hr] at e
        injection e with e
        subst e
        obtain ⟨_, _, ws, w1, w2⟩ := at_ j b hj
        refine .inr ⟨?_, ws, w2, ?_⟩
        · refine Nat.le_trans (List.length_filterMap_le _ _) ?_
          rw [← (seqsV_len h).1]
          exact hl
        · exact ⟨_, w1, rfl, _, rfl⟩
      · rw [layR_out hm] at e
        exact .inl e
  have I2 := I.un (t' := s'.toks) un hok
  rw [← Moved.eq_with q4] at I2
  exact ⟨.ref S, _, I2, rfl, hQ ts S htl hnd (fun t ht => I.hok.fresh (mem_ t ht).2) (I.hok.fresh q1) hS⟩
end
section
variable {X : Cx} {p p2 q q2 sp : Pos} {e : Expr} {es : List Expr} {te : TE} {ta : TA} {f : Value}
theorem keep_type {M : Model} {T : String} : ∀ h : Heap, (fun _ : Heap => True) h → ∃ k, (k = Keeper.frame ∨ k = Keeper.machine ∨ k = Keeper.boundFrame) ∧ PySem.W.Looks M h (keeperOf (.type T)) k :=
  fun h _ => ⟨.machine, .inr (.inl rfl), fun A Q E s k q => wpAny_pure q⟩
def tListZip (K : PySem.W.Frag) (ta : TA) : TE := fun σ H Q => ta σ H fun vs H1 => ∃ n xs, SeqsV K H1 n vs xs ∧ vs ≠ [] ∧ vs.length ≤ sizeLine ∧ n ≤ sizeLine ∧
  ∀ (ts : List Addr) (l : Addr), ts.length = n → ts.Nodup → (∀ t ∈ ts, H1 t = none) → H1 l = none → l ∉ ts → Q (.ref l) (upd (layR H1 ts (turnR n xs)) l (.lst (ts.map V.ref)))
/-- list(zip(*e)) -/
theorem pe_listZip1 (hc : X.calm = true) (hg : Gl X "list") (hm : X.mg "list" = none) (hgz : Gl X "zip") (hmz : X.mg "zip" = none) (he : PE X e te)
    (hst : starEach [.Starred e sp] X.env = [(true, eval e X.env)] := by rfl)
    (hs : starEach [.Call (.Name "zip" p2) [.Starred e sp] [] q2] X.env = (false, eval (.Call (.Name "zip" p2) [.Starred e sp] [] q2) X.env) :: starEach [] X.env := by rfl) :
    PE X (.Call (.Name "list" p) [.Call (.Name "zip" p2) [.Starred e sp] [] q2] [] q) (tListZip X.K (fun σ H Q => te σ H fun y H1 => ∃ a xs, y = V.ref a ∧ (SqT X.K H1 a xs ∨ SqL X.K H1 a xs) ∧ Q xs H1)) := by
  refine ⟨fun pins s σ H Q I h => ?_⟩
  refine wpAny_Call_Name_kw (ld_blt I hg hm (u := .type "list") (by rfl) ?_)
  refine PyProof.Rows.callWith_type1 ?_ hs rfl
  rw [hs]
  show wpAny _ _ (spliced ((false, eval (.Call (.Name "zip" p2) [.Starred e sp] [] q2) X.env) :: backTo q (starEach [] X.env))) _ _ s
  refine Calls.spliced_cons (wpAny_mono (Q := fun u s1 => wpAny (model X.prog X.w) X.A (call (.type "list") [u]) (EP X pins σ Q) X.xe s1) (wpAny_Call_Name_kw (ld_blt I hgz hmz (u := .type "zip") (by rfl) ?_)) (fun u s1 hu => Calls.spliced_nil hu) fun _ _ z => z)
  rw [hst]
  refine PySem.W.ks_call (P := fun _ => True) rfl keep_type (PySem.W.ks_lone (thn (he.run pins s σ H _ I h) fun v s1 ⟨y, H1, I1, ry, a, ws, ey, hx, n, xs, z1, z2, z3, z4, z5⟩ => ?_))
  subst ey
  obtain rfl : v = Value.ref a := ry
  refine StX.star_any I1 hx fun us s2 I2 rv => ⟨True.intro, ?_⟩
  exact zip_in hc I2 rv z1 z2 z3 z4 z5
/-- list(zip(e, .., *y)) -/
theorem pe_listZip2 (hc : X.calm = true) (hg : Gl X "list") (hm : X.mg "list" = none) (hgz : Gl X "zip") (hmz : X.mg "zip" = none) (ha : PA X (e :: es) ta)
    (he : starEach (e :: es) X.env = (false, eval e X.env) :: starEach es X.env := by rfl) (hst : (backTo q2 (starEach es X.env)).any (·.1) = true := by rfl)
    (hs : starEach [.Call (.Name "zip" p2) (e :: es) [] q2] X.env = (false, eval (.Call (.Name "zip" p2) (e :: es) [] q2) X.env) :: starEach [] X.env := by rfl) :
    PE X (.Call (.Name "list" p) [.Call (.Name "zip" p2) (e :: es) [] q2] [] q) (tListZip X.K ta) := by
  refine ⟨fun pins s σ H Q I h => ?_⟩
  refine wpAny_Call_Name_kw (ld_blt I hg hm (u := .type "list") (by rfl) ?_)
  refine PyProof.Rows.callWith_type1 ?_ hs rfl
  rw [hs]
  show wpAny _ _ (spliced ((false, eval (.Call (.Name "zip" p2) (e :: es) [] q2) X.env) :: backTo q (starEach [] X.env))) _ _ s
  refine Calls.spliced_cons (wpAny_mono (Q := fun u s1 => wpAny (model X.prog X.w) X.A (call (.type "list") [u]) (EP X pins σ Q) X.xe s1) (wpAny_Call_Name_kw (ld_blt I hgz hmz (u := .type "zip") (by rfl) ?_)) (fun u s1 hu => Calls.spliced_nil hu) fun _ _ z => z)
  have h2 := ha.run q2 pins s σ H _ I h
  rw [he] at h2 ⊢
  refine PySem.W.ks_call (P := fun _ => True) (by show (false || (backTo q2 (starEach es X.env)).any (·.1)) = true; rw [hst]; rfl) keep_type (Calls.evalArgs_plain (thn h2 fun us s1 ⟨vs, H1, I1, r, n, xs, z1, z2, z3, z4, z5⟩ => ⟨True.intro, ?_⟩))
  exact zip_in hc I1 r z1 z2 z3 z4 z5
end
end ZpR
set_option maxHeartbeats 4000000
namespace MixD
open PySem
/-- entry i has key i of the list -/
inductive Ents (w : World) (h : Heap) : List DictEntry → List (NestedKey × Value) → Prop
  | nil : Ents w h [] []
  | cons {k : NestedKey} {v x : Value} {es : List DictEntry} {xs : List (NestedKey × Value)} (hk : NestedIs h k v) (dp : k.depth ≤ 8) (t : Ents w h es xs) : Ents w h (⟨k.hash w, v, x⟩ :: es) ((k, x) :: xs)
theorem Ents.length {w : World} {h : Heap} {es : List DictEntry} {xs : List (NestedKey × Value)} (e : Ents w h es xs) : es.length = xs.length := by
  induction e with
  | nil => rfl
  | cons _ _ _ ih => simp [ih]
theorem Ents.at {w : World} {h : Heap} {es : List DictEntry} {xs : List (NestedKey × Value)} (e : Ents w h es xs) : ∀ {i : Nat} {en : DictEntry}, es[i]? = some en → ∃ k x, xs[i]? = some (k, x) ∧ en.hash = k.hash w ∧ NestedIs h k en.key ∧ k.depth ≤ 8 ∧ en.val = x := by
  induction e with
  | nil => intro i en h; simp at h
  | @cons k v x es xs hk dp t ih =>
    intro i en h
    cases i with
    | zero =>
      injection h with h
      subst h
      exact ⟨k, x, rfl, rfl, hk, dp, rfl⟩
    | succ i => exact ih h
theorem Ents.of {w : World} {h : Heap} {es : List DictEntry} {xs : List (NestedKey × Value)} (e : Ents w h es xs) {i : Nat} {k : NestedKey} {x : Value} (hx : xs[i]? = some (k, x)) : ∃ en, es[i]? = some en ∧ en.hash = k.hash w ∧ en.val = x := by
  have hi : i < es.length := by rw [e.length]; exact (List.getElem?_eq_some_iff.mp hx).1
  obtain ⟨k', x', h1, h2, h3, h4, h5⟩ := e.at (List.getElem?_eq_getElem hi)
  rw [hx] at h1
  cases h1
  exact ⟨_, List.getElem?_eq_getElem hi, h2, h5⟩
theorem Ents.stay {w : World} {h h' : Heap} (hk : ∀ a o vs n, h.get? a = some o → o.data = .seq vs n → h'.get? a = some o) {es : List DictEntry} {xs : List (NestedKey × Value)} (e : Ents w h es xs) : Ents w h' es xs := by
  induction e with
  | nil => exact .nil
  | cons q dp _ ih => exact .cons (NestedIs.at hk _ _ q) dp ih
theorem Ents.snoc {w : World} {h : Heap} {k : NestedKey} {v x : Value} {es : List DictEntry} {xs : List (NestedKey × Value)} (e : Ents w h es xs) (hk : NestedIs h k v) (dp : k.depth ≤ 8) : Ents w h (es ++ [⟨k.hash w, v, x⟩]) (xs ++ [(k, x)]) := by
  induction e with
  | nil => exact .cons hk dp .nil
  | cons q d _ ih => exact .cons q d ih
section
variable {prog : Program} {w : World} {A : Around} {E : Value → Shared → Prop} {s : Shared}
theorem places_mem {es : Array DictEntry} {hv : Int} {i : Nat} (h : i ∈ placesWithHash es.size (fun i => es[i]?.map (·.hash)) hv) : ∃ en, es[i]? = some en ∧ en.hash = hv := by
  have h2 := (List.mem_filter.mp h).2
  dsimp only at h2
  cases he : es[i]? with
  | none => rw [he] at h2; simp at h2
  | some en => rw [he] at h2; exact ⟨en, rfl, by simpa using h2⟩
theorem mem_places {es : Array DictEntry} {hv : Int} {i : Nat} {en : DictEntry} (h : es[i]? = some en) (e : en.hash = hv) : i ∈ placesWithHash es.size (fun i => es[i]?.map (·.hash)) hv := by
  refine List.mem_filter.mpr ⟨List.mem_range.mpr (Array.getElem?_eq_some_iff.mp h).1, ?_⟩
  simp [h, e]
theorem places_nodup {es : Array DictEntry} {hv : Int} : (placesWithHash es.size (fun i => es[i]?.map (·.hash)) hv).Nodup := List.Pairwise.filter _ List.nodup_range
theorem key_one {α : Type} {xs : List (NestedKey × α)} (hn : (xs.map (·.1)).Nodup) {i j : Nat} {k : NestedKey} {x y : α} (h1 : xs[i]? = some (k, x)) (h2 : xs[j]? = some (k, y)) : i = j := by
  have a : (xs.map (·.1))[i]? = some k := by rw [List.getElem?_map, h1]; rfl
  have b : (xs.map (·.1))[j]? = some k := by rw [List.getElem?_map, h2]; rfl
  exact (List.getElem?_inj (List.getElem?_eq_some_iff.mp a).1 hn).mp (a.trans b.symm)
theorem find_mix {d : Addr} {v : Value} {o : Obj} {es : Array DictEntry} {ep : Nat} {xs : List (NestedKey × Value)} {k : NestedKey} {Q : Option Nat → Shared → Prop} (hu : A.units + 8 < cLine) (hk : NestedIs s.heap k v) (dp : k.depth ≤ 8) (hns : ∀ x t, v ≠ .str x t)
    (ho : s.heap.get? d = some o) (hd : o.data = .dict es ep) (he : Ents w s.heap es.toList xs) (hn : (xs.map (·.1)).Nodup)
    (hnone : k ∉ xs.map (·.1) → Q none s) (hsome : ∀ i x, xs[i]? = some (k, x) → Q (some i) s) :
    wpAny (model prog w) A (dictFind d v (k.hash w)) Q E s := by
  have hat : ∀ (i : Nat) (en : DictEntry), es[i]? = some en → ∃ k' x, xs[i]? = some (k', x) ∧ en.hash = k'.hash w ∧ NestedIs s.heap k' en.key ∧ k'.depth ≤ 8 := fun i en h => by
    obtain ⟨k', x, a, b, c, d, _⟩ := he.at (by rw [Array.getElem?_toList]; exact h)
    exact ⟨k', x, a, b, c, d⟩
  have hof : ∀ i x, xs[i]? = some (k, x) → i ∈ placesWithHash es.size (fun i => es[i]?.map (·.hash)) (k.hash w) := fun i x h => by
    obtain ⟨en, a, b, _⟩ := he.of h
    rw [Array.getElem?_toList] at a
    exact mem_places a b
  have hmiss : (∀ i x, xs[i]? ≠ some (k, x)) → k ∉ xs.map (·.1) := fun h q => by
    obtain ⟨p, hp, e⟩ := List.mem_map.mp q
    obtain ⟨i, hi⟩ := List.mem_iff_getElem?.mp hp
    exact h i p.2 (by rw [hi, ← e])
  have heq : ∀ {k' : NestedKey} {u : Value} {R : Bool → Shared → Prop}, NestedIs s.heap k' u → R (decide (k' = k)) s → wpAny (model prog w) A (eqBool u v) R E s := fun {k' u R} h1 h2 =>
    (NestedKey.decide_eq k' k ▸ eqAt_key k' k A s u v h1 hk (by have := Nat.min_le_right k'.depth k.depth; omega)) prog w E R h2
  unfold dictFind
  refine wpAny_holding ?_
  refine wpAny_bind (wpAny_dictEntries ho hd ?_)
  have hany : ∀ a, v = .ref a → ¬ (es.any fun e => e.key == Value.ref a && e.hash != k.hash w) = true := by
    rintro a rfl q
    obtain ⟨i, hi, q⟩ := Array.any_eq_true.mp q
    obtain ⟨k', x, a1, a2, a3, a4⟩ := hat i _ (Array.getElem?_eq_getElem hi)
    simp only [Bool.and_eq_true, beq_iff_eq, bne_iff_ne, ne_eq] at q
    rw [q.1] at a3
    exact q.2 (by rw [a2, NestedIs.inj _ _ _ a3 hk])
  have hplain : wpAny (model prog w) A (dictWalkPlain d v (k.hash w) es (placesWithHash es.size (fun i => es[i]?.map (·.hash)) (k.hash w))) Q E s := by
    unfold dictWalkPlain
    refine wpAny_bind ?_
    refine wpAny_forIn_list _ (fun rest b s' => s' = s ∧ b.1 = none ∧ (∀ i ∈ rest, i ∈ placesWithHash es.size (fun i => es[i]?.map (·.hash)) (k.hash w)) ∧ ∀ i x, xs[i]? = some (k, x) → i ∈ rest) _ ?_ ?_ _ _ ⟨rfl, rfl, fun _ h => h, hof⟩
    · rintro i rest ⟨b1, b2⟩ s' ⟨rfl, e1, sub, hh⟩
      obtain rfl : b1 = none := e1
      obtain ⟨en, h1, h2⟩ := places_mem (sub i List.mem_cons_self)
      obtain ⟨k', x, a1, a2, a3, a4⟩ := hat i en h1
      dsimp only
      rw [h1]
      dsimp only
      rw [if_pos (by rw [h2]; simp)]
      refine wpAny_bind (wpAny_dictEpoch ho hd (wpAny_bind (heq a3 (wpAny_bind (wpAny_dictEpoch ho hd ?_)))))
      rw [if_neg (by simp)]
      by_cases hkk : k' = k
      · subst hkk
        rw [decide_eq_true rfl, if_pos rfl]
        exact wpAny_bind (wpAny_rule (wpAny_pure (wpAny_pure (hsome i x a1))))
      · rw [decide_eq_false hkk, if_neg (by simp)]
        refine wpAny_bind (wpAny_rule (wpAny_pure ⟨rfl, rfl, fun j hj => sub j (List.mem_cons_of_mem _ hj), fun j y hj => ?_⟩))
        rcases List.mem_cons.mp (hh j y hj) with q | q
        · subst q
          rw [a1] at hj
          cases hj
          exact absurd rfl hkk
        · exact q
    · rintro ⟨b1, b2⟩ s' ⟨rfl, e1, sub, hh⟩
      obtain rfl : b1 = none := e1
      exact wpAny_pure (hnone (hmiss fun i x q => by simpa using hh i x q))
  have hquiet : wpAny (model prog w) A (tableMayTell v ((placesWithHash es.size (fun i => es[i]?.map (·.hash)) (k.hash w)).filterMap fun i => es[i]?.map (·.key))) (fun b s' => b = false ∧ s' = s) E s := by
    unfold tableMayTell
    split
    · exact wpAny_pure ⟨rfl, rfl⟩
    · refine wpAny_bind (quiet_key k v 8 s hk dp A E _ ?_)
      simp only [Bool.not_true, Bool.false_eq_true, if_false]
      refine wpAny_bind ?_
      refine wpAny_forIn_list _ (fun rest r s' => s' = s ∧ r.1 = none ∧ ∀ u ∈ rest, ∃ k', NestedIs s.heap k' u ∧ k'.depth ≤ 8) _ ?_ ?_ _ _ ⟨rfl, rfl, fun u hu => ?_⟩
      · rintro u rest ⟨r1, r2⟩ s' ⟨rfl, e1, hr⟩
        obtain rfl : r1 = none := e1
        obtain ⟨k', h1, h2⟩ := hr u List.mem_cons_self
        refine wpAny_bind (quiet_key k' u 8 s' h1 h2 A E _ ?_)
        simp only [Bool.not_true, Bool.false_eq_true, if_false]
        exact wpAny_pure ⟨rfl, rfl, fun z hz => hr z (List.mem_cons_of_mem _ hz)⟩
      · rintro ⟨r1, r2⟩ s' ⟨rfl, e1, _⟩
        obtain rfl : r1 = none := e1
        exact wpAny_pure ⟨rfl, rfl⟩
      · obtain ⟨i, _, hi⟩ := List.mem_filterMap.mp hu
        cases hei : es[i]? with
        | none => rw [hei] at hi; cases hi
        | some en =>
          rw [hei] at hi
          obtain rfl : en.key = u := by simpa using hi
          obtain ⟨k', x, a1, a2, a3, a4⟩ := hat i en hei
          exact ⟨k', a3, a4⟩
  have hv : v = .none ∨ (∃ b, v = .bool b) ∨ (∃ j t, v = .int j t) ∨ ∃ a, v = .ref a := by
    cases hk with
    | text x t => exact absurd rfl (hns x t)
    | none => exact .inl rfl
    | bool e => exact .inr (.inl ⟨_, rfl⟩)
    | int j t => exact .inr (.inr (.inl ⟨_, _, rfl⟩))
    | tup h1 h2 h3 h4 => exact .inr (.inr (.inr ⟨_, rfl⟩))
  rcases hv with rfl | ⟨bv, rfl⟩ | ⟨j, t, rfl⟩ | ⟨a, rfl⟩
  · dsimp only
    by_cases hb : ((Value.none :: ((placesWithHash es.size (fun i => es[i]?.map (·.hash)) (k.hash w)).filterMap (fun i => es[i]?.map (·.key)))).all carriedByValue) = true
    · rw [if_pos hb]
      exact hplain
    rw [if_neg hb]
    by_cases hone : (((placesWithHash es.size (fun i => es[i]?.map (·.hash)) (k.hash w)).filterMap (fun i => es[i]?.map (·.key))) == [Value.none]) = true <;>
    (first | rw [if_pos hone] | rw [if_neg hone]) <;>
    (first | refine wpAny_bind (wpAny_pure ?_) | refine wpAny_bind (wpAny_mono hquiet (fun b s' ⟨e1, e2⟩ => ?_) fun _ _ z => z)) <;>
    (try subst e1) <;> (try rw [e2]) <;>
    (rw [if_neg (by simp)]
     refine wpAny_bind ?_
     refine wpAny_forIn_list _ (fun rest b s' => s' = s ∧ b.1 = none ∧ rest.Nodup ∧ (∀ i ∈ rest, i ∈ placesWithHash es.size (fun i => es[i]?.map (·.hash)) (k.hash w)) ∧
      ((b.2 = none ∧ ∀ i x, xs[i]? = some (k, x) → i ∈ rest) ∨ ∃ i x, b.2 = some i ∧ xs[i]? = some (k, x) ∧ i ∉ rest)) _ ?_ ?_ _ _ ⟨rfl, rfl, places_nodup, fun _ h => h, .inl ⟨rfl, hof⟩⟩
     · rintro i rest ⟨b1, b2⟩ s' ⟨rfl, e1, nd, sub, hh⟩
       obtain rfl : b1 = none := e1
       obtain ⟨en, h1, h2⟩ := places_mem (sub i List.mem_cons_self)
       obtain ⟨k', x, a1, a2, a3, a4⟩ := hat i en h1
       have nd' := List.nodup_cons.mp nd
       have sub' : ∀ j ∈ rest, j ∈ placesWithHash es.size (fun i => es[i]?.map (·.hash)) (k.hash w) := fun j hj => sub j (List.mem_cons_of_mem _ hj)
       dsimp only
       rw [h1]
       dsimp only
       rw [if_pos (by rw [h2]; simp)]
       refine wpAny_bind (wpAny_dictEpoch ho hd (wpAny_bind (heq a3 (wpAny_bind (wpAny_dictEpoch ho hd ?_)))))
       rw [if_neg (by simp)]
       by_cases hkk : k' = k
       · subst hkk
         rw [decide_eq_true rfl, if_pos rfl]
         rcases hh with ⟨e2, hh⟩ | ⟨j, y, e2, hj, hnr⟩
         · obtain rfl : b2 = none := e2
           simp only [Option.isSome_none, Bool.false_eq_true, if_false]
           refine wpAny_bind (wpAny_rule ?_)
           split
           · exact wpAny_pure (wpAny_pure (hsome i x a1))
           · exact wpAny_pure ⟨rfl, rfl, nd'.2, sub', .inr ⟨i, x, rfl, a1, nd'.1⟩⟩
         · exact absurd (key_one hn hj a1 ▸ List.mem_cons_self) hnr
       · rw [decide_eq_false hkk, if_neg (by simp)]
         refine wpAny_bind (wpAny_rule ?_)
         first | rw [if_neg (by simp)] | skip
         refine wpAny_pure ⟨rfl, rfl, nd'.2, sub', ?_⟩
         rcases hh with ⟨e2, hh⟩ | ⟨j, y, e2, hj, hnr⟩
         · refine .inl ⟨e2, fun j y hj => ?_⟩
           rcases List.mem_cons.mp (hh j y hj) with q | q
           · subst q
             rw [a1] at hj
             cases hj
             exact absurd rfl hkk
           · exact q
         · exact .inr ⟨j, y, e2, hj, fun q => hnr (List.mem_cons_of_mem _ q)⟩
     · rintro ⟨b1, b2⟩ s' ⟨rfl, e1, nd, sub, hh⟩
       obtain rfl : b1 = none := e1
       rcases hh with ⟨e2, hh⟩ | ⟨i, x, e2, hi, _⟩
       · obtain rfl : b2 = none := e2
         exact wpAny_pure (hnone (hmiss fun i x q => by simpa using hh i x q))
       · obtain rfl : b2 = some i := e2
         exact wpAny_pure (hsome i x hi))

  · dsimp only
    by_cases hb : ((Value.bool bv :: ((placesWithHash es.size (fun i => es[i]?.map (·.hash)) (k.hash w)).filterMap (fun i => es[i]?.map (·.key)))).all carriedByValue) = true
    · rw [if_pos hb]
      exact hplain
    rw [if_neg hb]
    by_cases hone : (((placesWithHash es.size (fun i => es[i]?.map (·.hash)) (k.hash w)).filterMap (fun i => es[i]?.map (·.key))) == [Value.bool bv]) = true <;>
    (first | rw [if_pos hone] | rw [if_neg hone]) <;>
    (first | refine wpAny_bind (wpAny_pure ?_) | refine wpAny_bind (wpAny_mono hquiet (fun b s' ⟨e1, e2⟩ => ?_) fun _ _ z => z)) <;>
    (try subst e1) <;> (try rw [e2]) <;>
    (rw [if_neg (by simp)]
     refine wpAny_bind ?_
     refine wpAny_forIn_list _ (fun rest b s' => s' = s ∧ b.1 = none ∧ rest.Nodup ∧ (∀ i ∈ rest, i ∈ placesWithHash es.size (fun i => es[i]?.map (·.hash)) (k.hash w)) ∧
      ((b.2 = none ∧ ∀ i x, xs[i]? = some (k, x) → i ∈ rest) ∨ ∃ i x, b.2 = some i ∧ xs[i]? = some (k, x) ∧ i ∉ rest)) _ ?_ ?_ _ _ ⟨rfl, rfl, places_nodup, fun _ h => h, .inl ⟨rfl, hof⟩⟩
     · rintro i rest ⟨b1, b2⟩ s' ⟨rfl, e1, nd, sub, hh⟩
       obtain rfl : b1 = none := e1
       obtain ⟨en, h1, h2⟩ := places_mem (sub i List.mem_cons_self)
       obtain ⟨k', x, a1, a2, a3, a4⟩ := hat i en h1
       have nd' := List.nodup_cons.mp nd
       have sub' : ∀ j ∈ rest, j ∈ placesWithHash es.size (fun i => es[i]?.map (·.hash)) (k.hash w) := fun j hj => sub j (List.mem_cons_of_mem _ hj)
       dsimp only
       rw [h1]
       dsimp only
       rw [if_pos (by rw [h2]; simp)]
       refine wpAny_bind (wpAny_dictEpoch ho hd (wpAny_bind (heq a3 (wpAny_bind (wpAny_dictEpoch ho hd ?_)))))
       rw [if_neg (by simp)]
       by_cases hkk : k' = k
       · subst hkk
         rw [decide_eq_true rfl, if_pos rfl]
         rcases hh with ⟨e2, hh⟩ | ⟨j, y, e2, hj, hnr⟩
         · obtain rfl : b2 = none := e2
           simp only [Option.isSome_none, Bool.false_eq_true, if_false]
           refine wpAny_bind (wpAny_rule ?_)
           split
           · exact wpAny_pure (wpAny_pure (hsome i x a1))
           · exact wpAny_pure ⟨rfl, rfl, nd'.2, sub', .inr ⟨i, x, rfl, a1, nd'.1⟩⟩
         · exact absurd (key_one hn hj a1 ▸ List.mem_cons_self) hnr
       · rw [decide_eq_false hkk, if_neg (by simp)]
         refine wpAny_bind (wpAny_rule ?_)
         first | rw [if_neg (by simp)] | skip
         refine wpAny_pure ⟨rfl, rfl, nd'.2, sub', ?_⟩
         rcases hh with ⟨e2, hh⟩ | ⟨j, y, e2, hj, hnr⟩
         · refine .inl ⟨e2, fun j y hj => ?_⟩
           rcases List.mem_cons.mp (hh j y hj) with q | q
           · subst q
             rw [a1] at hj
             cases hj
             exact absurd rfl hkk
           · exact q
         · exact .inr ⟨j, y, e2, hj, fun q => hnr (List.mem_cons_of_mem _ q)⟩
     · rintro ⟨b1, b2⟩ s' ⟨rfl, e1, nd, sub, hh⟩
       obtain rfl : b1 = none := e1
       rcases hh with ⟨e2, hh⟩ | ⟨i, x, e2, hi, _⟩
       · obtain rfl : b2 = none := e2
         exact wpAny_pure (hnone (hmiss fun i x q => by simpa using hh i x q))
       · obtain rfl : b2 = some i := e2
         exact wpAny_pure (hsome i x hi))

  · dsimp only
    by_cases hb : ((Value.int j t :: ((placesWithHash es.size (fun i => es[i]?.map (·.hash)) (k.hash w)).filterMap (fun i => es[i]?.map (·.key)))).all carriedByValue) = true
    · rw [if_pos hb]
      exact hplain
    rw [if_neg hb]
    by_cases hone : (((placesWithHash es.size (fun i => es[i]?.map (·.hash)) (k.hash w)).filterMap (fun i => es[i]?.map (·.key))) == [Value.int j t]) = true <;>
    (first | rw [if_pos hone] | rw [if_neg hone]) <;>
    (first | refine wpAny_bind (wpAny_pure ?_) | refine wpAny_bind (wpAny_mono hquiet (fun b s' ⟨e1, e2⟩ => ?_) fun _ _ z => z)) <;>
    (try subst e1) <;> (try rw [e2]) <;>
    (rw [if_neg (by simp)]
     refine wpAny_bind ?_
     refine wpAny_forIn_list _ (fun rest b s' => s' = s ∧ b.1 = none ∧ rest.Nodup ∧ (∀ i ∈ rest, i ∈ placesWithHash es.size (fun i => es[i]?.map (·.hash)) (k.hash w)) ∧
      ((b.2 = none ∧ ∀ i x, xs[i]? = some (k, x) → i ∈ rest) ∨ ∃ i x, b.2 = some i ∧ xs[i]? = some (k, x) ∧ i ∉ rest)) _ ?_ ?_ _ _ ⟨rfl, rfl, places_nodup, fun _ h => h, .inl ⟨rfl, hof⟩⟩
     · rintro i rest ⟨b1, b2⟩ s' ⟨rfl, e1, nd, sub, hh⟩
       obtain rfl : b1 = none := e1
       obtain ⟨en, h1, h2⟩ := places_mem (sub i List.mem_cons_self)
       obtain ⟨k', x, a1, a2, a3, a4⟩ := hat i en h1
       have nd' := List.nodup_cons.mp nd
       have sub' : ∀ j ∈ rest, j ∈ placesWithHash es.size (fun i => es[i]?.map (·.hash)) (k.hash w) := fun j hj => sub j (List.mem_cons_of_mem _ hj)
       dsimp only
       rw [h1]
       dsimp only
       rw [if_pos (by rw [h2]; simp)]
       refine wpAny_bind (wpAny_dictEpoch ho hd (wpAny_bind (heq a3 (wpAny_bind (wpAny_dictEpoch ho hd ?_)))))
       rw [if_neg (by simp)]
       by_cases hkk : k' = k
       · subst hkk
         rw [decide_eq_true rfl, if_pos rfl]
         rcases hh with ⟨e2, hh⟩ | ⟨j, y, e2, hj, hnr⟩
         · obtain rfl : b2 = none := e2
           simp only [Option.isSome_none, Bool.false_eq_true, if_false]
           refine wpAny_bind (wpAny_rule ?_)
           split
           · exact wpAny_pure (wpAny_pure (hsome i x a1))
           · exact wpAny_pure ⟨rfl, rfl, nd'.2, sub', .inr ⟨i, x, rfl, a1, nd'.1⟩⟩
         · exact absurd (key_one hn hj a1 ▸ List.mem_cons_self) hnr
       · rw [decide_eq_false hkk, if_neg (by simp)]
         refine wpAny_bind (wpAny_rule ?_)
         first | rw [if_neg (by simp)] | skip
         refine wpAny_pure ⟨rfl, rfl, nd'.2, sub', ?_⟩
         rcases hh with ⟨e2, hh⟩ | ⟨j, y, e2, hj, hnr⟩
         · refine .inl ⟨e2, fun j y hj => ?_⟩
           rcases List.mem_cons.mp (hh j y hj) with q | q
           · subst q
             rw [a1] at hj
             cases hj
             exact absurd rfl hkk
           · exact q
         · exact .inr ⟨j, y, e2, hj, fun q => hnr (List.mem_cons_of_mem _ q)⟩
     · rintro ⟨b1, b2⟩ s' ⟨rfl, e1, nd, sub, hh⟩
       obtain rfl : b1 = none := e1
       rcases hh with ⟨e2, hh⟩ | ⟨i, x, e2, hi, _⟩
       · obtain rfl : b2 = none := e2
         exact wpAny_pure (hnone (hmiss fun i x q => by simpa using hh i x q))
       · obtain rfl : b2 = some i := e2
         exact wpAny_pure (hsome i x hi))

  · dsimp only
    rw [if_neg (show ¬ ((Value.ref a :: ((placesWithHash es.size (fun i => es[i]?.map (·.hash)) (k.hash w)).filterMap (fun i => es[i]?.map (·.key)))).all carriedByValue) = true by simp [carriedByValue]), if_neg (hany _ rfl)]
    by_cases hone : (((placesWithHash es.size (fun i => es[i]?.map (·.hash)) (k.hash w)).filterMap (fun i => es[i]?.map (·.key))) == [Value.ref a]) = true <;>
    (first | rw [if_pos hone] | rw [if_neg hone]) <;>
    (first | refine wpAny_bind (wpAny_pure ?_) | refine wpAny_bind (wpAny_mono hquiet (fun b s' ⟨e1, e2⟩ => ?_) fun _ _ z => z)) <;>
    (try subst e1) <;> (try rw [e2]) <;>
    (rw [if_neg (by simp)]
     refine wpAny_bind ?_
     refine wpAny_forIn_list _ (fun rest b s' => s' = s ∧ b.1 = none ∧ rest.Nodup ∧ (∀ i ∈ rest, i ∈ placesWithHash es.size (fun i => es[i]?.map (·.hash)) (k.hash w)) ∧
      ((b.2 = none ∧ ∀ i x, xs[i]? = some (k, x) → i ∈ rest) ∨ ∃ i x, b.2 = some i ∧ xs[i]? = some (k, x) ∧ i ∉ rest)) _ ?_ ?_ _ _ ⟨rfl, rfl, places_nodup, fun _ h => h, .inl ⟨rfl, hof⟩⟩
     · rintro i rest ⟨b1, b2⟩ s' ⟨rfl, e1, nd, sub, hh⟩
       obtain rfl : b1 = none := e1
       obtain ⟨en, h1, h2⟩ := places_mem (sub i List.mem_cons_self)
       obtain ⟨k', x, a1, a2, a3, a4⟩ := hat i en h1
       have nd' := List.nodup_cons.mp nd
       have sub' : ∀ j ∈ rest, j ∈ placesWithHash es.size (fun i => es[i]?.map (·.hash)) (k.hash w) := fun j hj => sub j (List.mem_cons_of_mem _ hj)
       dsimp only
       rw [h1]
       dsimp only
       rw [if_pos (by rw [h2]; simp)]
       refine wpAny_bind (wpAny_dictEpoch ho hd (wpAny_bind (heq a3 (wpAny_bind (wpAny_dictEpoch ho hd ?_)))))
       rw [if_neg (by simp)]
       by_cases hkk : k' = k
       · subst hkk
         rw [decide_eq_true rfl, if_pos rfl]
         rcases hh with ⟨e2, hh⟩ | ⟨j, y, e2, hj, hnr⟩
         · obtain rfl : b2 = none := e2
           simp only [Option.isSome_none, Bool.false_eq_true, if_false]
           refine wpAny_bind (wpAny_rule ?_)
           split
           · exact wpAny_pure (wpAny_pure (hsome i x a1))
           · exact wpAny_pure ⟨rfl, rfl, nd'.2, sub', .inr ⟨i, x, rfl, a1, nd'.1⟩⟩
         · exact absurd (key_one hn hj a1 ▸ List.mem_cons_self) hnr
       · rw [decide_eq_false hkk, if_neg (by simp)]
         refine wpAny_bind (wpAny_rule ?_)
         first | rw [if_neg (by simp)] | skip
         refine wpAny_pure ⟨rfl, rfl, nd'.2, sub', ?_⟩
         rcases hh with ⟨e2, hh⟩ | ⟨j, y, e2, hj, hnr⟩
         · refine .inl ⟨e2, fun j y hj => ?_⟩
           rcases List.mem_cons.mp (hh j y hj) with q | q
           · subst q
             rw [a1] at hj
             cases hj
             exact absurd rfl hkk
           · exact q
         · exact .inr ⟨j, y, e2, hj, fun q => hnr (List.mem_cons_of_mem _ q)⟩
     · rintro ⟨b1, b2⟩ s' ⟨rfl, e1, nd, sub, hh⟩
       obtain rfl : b1 = none := e1
       rcases hh with ⟨e2, hh⟩ | ⟨i, x, e2, hi, _⟩
       · obtain rfl : b2 = none := e2
         exact wpAny_pure (hnone (hmiss fun i x q => by simpa using hh i x q))
       · obtain rfl : b2 = some i := e2
         exact wpAny_pure (hsome i x hi))
/-- what stands at k -/
def val {α : Type} (xs : List (NestedKey × α)) (k : NestedKey) : Option α := (xs.find? fun p => decide (p.1 = k)).map (·.2)
/-- k given the value v: at its place, or at the end -/
def put {α : Type} (xs : List (NestedKey × α)) (k : NestedKey) (v : α) : List (NestedKey × α) := if k ∈ xs.map (·.1) then xs.map (fun p => if p.1 = k then (p.1, v) else p) else xs ++ [(k, v)]
theorem val_none {α : Type} {xs : List (NestedKey × α)} {k : NestedKey} (h : k ∉ xs.map (·.1)) : val xs k = none := by
  unfold val
  rw [List.find?_eq_none.mpr fun p hp => ?_]
  · rfl
  · simp only [decide_eq_true_eq]
    exact fun e => h (List.mem_map.mpr ⟨p, hp, e⟩)
theorem val_at {α : Type} {xs : List (NestedKey × α)} (hn : (xs.map (·.1)).Nodup) {k : NestedKey} {i : Nat} {x : α} (h : xs[i]? = some (k, x)) : val xs k = some x := by
  unfold val
  cases hf : xs.find? (fun p => decide (p.1 = k)) with
  | none =>
    have := List.find?_eq_none.mp hf (k, x) (List.mem_of_getElem? h)
    simp at this
  | some p =>
    have e : p.1 = k := by simpa using List.find?_some hf
    obtain ⟨j, hj⟩ := List.mem_iff_getElem?.mp (List.mem_of_find?_eq_some hf)
    have hp : p = (k, p.2) := by rw [← e]
    rw [hp] at hj
    have := key_one hn h hj
    subst this
    rw [h] at hj
    cases hj
    rfl
/-- a dict with mixed keys -/
def Mixd (w : World) (h : Heap) (d : Addr) (xs : List (NestedKey × Value)) : Prop :=
  ∃ o es ep, h.get? d = some o ∧ o.ExactDict ∧ o.data = .dict es ep ∧ Ents w h es.toList xs ∧ (xs.map (·.1)).Nodup
theorem Mixd.type {d : Addr} {xs : List (NestedKey × Value)} (m : Mixd w s.heap d xs) : s.TypeIs (.ref d) "dict" := let ⟨o, _, _, ho, hc, _⟩ := m; ⟨o, ho, hc.1⟩
theorem get_mix {d : Addr} {v : Value} {xs : List (NestedKey × Value)} {k : NestedKey} {Q : Option Value → Shared → Prop} (hu : A.units + 8 < cLine) (hk : NestedIs s.heap k v) (dp : k.depth ≤ 8) (hns : ∀ x t, v ≠ .str x t) (m : Mixd w s.heap d xs)
    (h : Q (val xs k) { s with toks := s.toks + k.draws }) : wpAny (model prog w) A (dictGet d v) Q E s := by
  obtain ⟨o, es, ep, ho, hc, hd, he, hn⟩ := m
  unfold dictGet
  refine wpAny_holding (wpAny_bind (pyHash_key k v A s _ hk (by omega) (wpAny_bind (find_mix (s := { s with toks := s.toks + k.draws }) hu hk dp hns ho hd he hn (fun hno => ?_) fun i x hi => ?_))))
  · rw [val_none hno] at h
    exact wpAny_pure h
  · rw [val_at hn hi] at h
    refine wpAny_bind (wpAny_dictEntries (s := { s with toks := s.toks + k.draws }) ho hd ?_)
    obtain ⟨en, h1, _, h2⟩ := he.of hi
    rw [Array.getElem?_toList] at h1
    rw [h1]
    show wpAny _ _ (pure (some en.val)) _ _ _
    rw [h2]
    exact wpAny_pure h
theorem Ents.modify {w : World} {h : Heap} {k : NestedKey} {y : Value} : ∀ {es : List DictEntry} {xs : List (NestedKey × Value)} {i : Nat} {x : Value}, Ents w h es xs → (xs.map (·.1)).Nodup → xs[i]? = some (k, x) →
    Ents w h (es.modify i fun e => { e with val := y }) (xs.map fun p => if p.1 = k then (p.1, y) else p)
  | _, _, i, x, .nil, _, hx => by simp at hx
  | _, _, 0, x, .cons (k := k') (xs := xs) q dp t, hn, hx => by
    injection hx with hx
    injection hx with h1 h2
    subst h1
    rw [List.map_cons, if_pos rfl]
    have : xs.map (fun p => if p.1 = k' then (p.1, y) else p) = xs := by
      conv => rhs; rw [← List.map_id xs]
      refine List.map_congr_left fun p hp => ?_
      rw [if_neg]
      · rfl
      · exact fun e => (List.nodup_cons.mp hn).1 (List.mem_map.mpr ⟨p, hp, e⟩)
    rw [this]
    exact .cons q dp t
  | _, _, i + 1, x, .cons (k := k') q dp t, hn, hx => by
    have hx' := hx
    rw [List.getElem?_cons_succ] at hx'
    rw [List.map_cons, if_neg]
    · exact .cons q dp (t.modify (List.nodup_cons.mp hn).2 hx')
    · intro e
      exact (List.nodup_cons.mp hn).1 (List.mem_map.mpr ⟨_, List.mem_of_getElem? hx', e.symm⟩)
/-- what a store leaves of the entries -/
def PutE (w : World) (es es' : List DictEntry) (xs : List (NestedKey × Value)) (k : NestedKey) (v y : Value) : Prop :=
  (k ∉ xs.map (·.1) ∧ es' = es ++ [⟨k.hash w, v, y⟩]) ∨ ∃ i x, xs[i]? = some (k, x) ∧ es' = es.modify i fun e => { e with val := y }
/-- a dict, its entries told -/
def RawD (h : Heap) (d : Addr) (es : List DictEntry) : Prop := ∃ (o : Obj) (l : Array DictEntry) (ep : Nat), h.get? d = some o ∧ o.ExactDict ∧ o.data = .dict l ep ∧ l.toList = es
theorem set_mix {d : Addr} {v y : Value} {es : List DictEntry} {xs : List (NestedKey × Value)} {k : NestedKey} {Q : Unit → Shared → Prop} (hu : A.units + 8 < cLine) (hk : NestedIs s.heap k v) (dp : k.depth ≤ 8) (hns : ∀ x t, v ≠ .str x t) (m : RawD s.heap d es) (he : Ents w s.heap es xs) (hn : (xs.map (·.1)).Nodup) (hsz : xs.length ≤ sizeLine)
    (h : ∀ h' es', RawD h' d es' → PutE w es es' xs k v y → Heap.SameBut d s.heap h' → Q () { s with heap := h', toks := s.toks + k.draws }) : wpAny (model prog w) A (dictSet d v y) Q E s := by
  obtain ⟨o, l, ep, ho, hc, hd, rfl⟩ := m
  have hes : l.size = xs.length := by rw [← Array.length_toList, he.length]
  unfold dictSet
  refine wpAny_holding (wpAny_bind (pyHash_key k v A s _ hk (by omega) ?_))
  unfold dictSetHashed
  refine wpAny_holding (wpAny_bind (find_mix (s := { s with toks := s.toks + k.draws }) hu hk dp hns ho hd he hn (fun hno => ?_) fun i x hi => ?_))
  · refine wpAny_bind (wpAny_rule (wpAny_updateDictKeys (hz := by omega) (s := { s with toks := s.toks + k.draws }) ho hd (h _ _ ⟨_, _, ep + 1, Heap.get?_update_self _ ho (Obj.isFreed_of_dict (Obj.data_mapDictKeys hd _)), hc.mapDictKeys _, Obj.data_mapDictKeys hd _, rfl⟩ (.inl ⟨hno, Array.toList_push⟩) (Heap.SameBut.update ..))))
  · exact wpAny_bind (wpAny_rule (wpAny_bind (wpAny_updateDict (s := { s with toks := s.toks + k.draws }) ho hd (wpAny_point (h _ _ ⟨_, _, ep, Heap.get?_update_self _ ho (Obj.isFreed_of_dict (Obj.data_mapDict hd _)), hc.mapDict _, Obj.data_mapDict hd _, rfl⟩ (.inr ⟨i, x, hi, Array.toList_modify ..⟩) (Heap.SameBut.update ..))))))
theorem has_mix {d : Addr} {v : Value} {xs : List (NestedKey × Value)} {k : NestedKey} {Q : Bool → Shared → Prop} (hu : A.units + 9 < cLine) (hk : NestedIs s.heap k v) (dp : k.depth ≤ 8) (hns : ∀ x t, v ≠ .str x t) (hd : (d == sysModules) = false) (m : Mixd w s.heap d xs)
    (h : Q (val xs k).isSome { s with toks := s.toks + k.draws }) : wpAny (model prog w) A (contains (.ref d) v) Q E s := by
  refine wpAny_contains_slot m.type F.slot_dict_contains (wpAny_call_entry F.slot_dict_contains m.type F.entry_dict_contains ?_ (F.args_dict_contains_2 _ _))
  show wpAny _ _ (dictGet d v >>= _) _ _ _
  refine wpAny_bind (get_mix (by show A.units + 1 + 8 < cLine; omega) hk dp hns m ?_)
  cases hf : val xs k with
  | some p =>
    rw [hf] at h
    show wpAny _ _ (ret (.bool true)) _ _ _
    exact wpAny_pure ⟨_, rfl, wpAny_truthy_bool h⟩
  | none =>
    rw [hf] at h
    show wpAny _ _ (Builtin.Dict.pendingKey? d v >>= _) _ _ _
    exact wpAny_bind (wpAny_pendingKey_other hd (wpAny_pure ⟨_, rfl, wpAny_truthy_bool h⟩))
theorem item_mix {d : Addr} {v x : Value} {xs : List (NestedKey × Value)} {k : NestedKey} {Q : Value → Shared → Prop} (hu : A.units + 9 < cLine) (hk : NestedIs s.heap k v) (dp : k.depth ≤ 8) (hns : ∀ x t, v ≠ .str x t) (m : Mixd w s.heap d xs) (hx : val xs k = some x)
    (h : Q x { s with toks := s.toks + k.draws }) : wpAny (model prog w) A (getItem (.ref d) v) Q E s := by
  refine wpAny_getItem_slot m.type (by decide) F.slot_dict_getitem (wpAny_call_entry F.slot_dict_getitem m.type F.entry_dict_getitem ?_ (F.args_dict_getitem_2 _ _))
  show wpAny _ _ (dictGet d v >>= _) _ _ _
  refine wpAny_bind (get_mix (by show A.units + 1 + 8 < cLine; omega) hk dp hns m ?_)
  rw [hx]
  exact wpAny_pure ⟨x, rfl, h⟩
theorem setItem_mix {d : Addr} {v y : Value} {xs : List (NestedKey × Value)} {k : NestedKey} {Q : Unit → Shared → Prop} (hu : A.units + 9 < cLine) (hk : NestedIs s.heap k v) (dp : k.depth ≤ 8) (hns : ∀ x t, v ≠ .str x t) {es : List DictEntry} (m : RawD s.heap d es) (he : Ents w s.heap es xs) (hn : (xs.map (·.1)).Nodup) (hsz : xs.length ≤ sizeLine)
    (h : ∀ h' es', RawD h' d es' → PutE w es es' xs k v y → Heap.SameBut d s.heap h' → Q () { s with heap := h', toks := s.toks + k.draws }) : wpAny (model prog w) A (setItem (.ref d) v y) Q E s := by
  have mt : s.TypeIs (.ref d) "dict" := let ⟨o, _, _, ho, hc, _⟩ := m; ⟨o, ho, hc.1⟩
  unfold setItem
  refine wpAny_holding ?_
  refine wpAny_bind (wpAny_sequenceKey mt (by decide) ?_)
  refine wpAny_bind (wpAny_callSpecial?_slot (name := Str.ofString "__setitem__") mt slot_dict_setitem
    (wpAny_call_entry slot_dict_setitem mt entry_dict_setitem ?_ (args_dict_setitem _ _ _)))
  show wpAny _ _ (Builtin.Dict.notOrdered "__setitem__" ⟨[.ref d, v, y], []⟩ >>= _) _ _ s
  refine wpAny_bind (wpAny_notOrdered_dict mt ?_)
  show wpAny _ _ (dictSet d v y >>= _) _ _ s
  exact wpAny_bind (set_mix (by show A.units + 1 + 8 < cLine; omega) hk dp hns m he hn hsz fun h' es' m' p hs => wpAny_pure ⟨.none, rfl, wpAny_pure (h h' es' m' p hs)⟩)
end
end MixD
set_option maxHeartbeats 4000000
namespace MixD
open PySem PySem.Spec PyProof.Rows L2
mutual
/-- the value x is the key k, among what is tracked -/
inductive NV (H : Hp) : NestedKey → V → Prop
  | non : NV H .none .non
  | bl {b i} (e : i = (if b = true then 1 else 0)) : NV H (.num i) (.bl b)
  | int (i) : NV H (.num i) (.int i)
  | tup {a vs ks} (e : H a = some (.tup vs)) (t : NVs H ks vs) : NV H (.tup ks) (.ref a)
inductive NVs (H : Hp) : List NestedKey → List V → Prop
  | nil : NVs H [] []
  | cons {k v ks vs} (h : NV H k v) (t : NVs H ks vs) : NVs H (k :: ks) (v :: vs)
end
mutual
theorem NV.is {P : Program} {w : World} {H : Hp} {h : Heap} (ok : HOk P w H h) : ∀ {k : NestedKey} {x : V} {u : Value}, NV H k x → RelV x u → NestedIs h k u
  | .none, _, u, q, r => by
    cases q
    obtain rfl : u = Value.none := r
    exact .none
  | .num i, _, u, q, r => by
    cases q with
    | @bl b _ e =>
      obtain rfl : u = Value.bool b := r
      exact .bool e
    | int i =>
      obtain ⟨t, rfl⟩ := (show ∃ t, u = Value.int i t from r)
      exact .int i t
  | .text x, _, u, q, r => by cases q
  | .tup ks, _, u, q, r => by
    cases q with
    | @tup a vs _ e t =>
      obtain rfl : u = Value.ref a := r
      obtain ⟨z, its, rv, o, ho, hc, n, hd⟩ := (show ObjOk P w H h a (.tup vs) from ok a _ e)
      exact .tup ho hc hd (by simpa using NVs.is ok t rv)
theorem NVs.is {P : Program} {w : World} {H : Hp} {h : Heap} (ok : HOk P w H h) : ∀ {ks : List NestedKey} {xs : List V} {us : List Value}, NVs H ks xs → Vals xs us → NestedAll h ks us
  | [], _, us, q, r => by
    cases q
    cases r
    exact .nil
  | k :: ks, _, us, q, r => by
    cases q with
    | cons q1 q2 =>
      cases r with
      | cons r1 r2 => exact .cons (NV.is ok q1 r1) (NVs.is ok q2 r2)
end
mutual
theorem NV.up {H H' : Hp} (k : ∀ a vs, H a = some (.tup vs) → H' a = some (.tup vs)) : ∀ {kk : NestedKey} {x : V}, NV H kk x → NV H' kk x
  | .none, _, q => by cases q; exact .non
  | .num i, _, q => by
    cases q with
    | bl e => exact .bl e
    | int i => exact .int i
  | .text x, _, q => by cases q
  | .tup ks, _, q => by cases q with | tup e t => exact .tup (k _ _ e) (NVs.up k t)
theorem NVs.up {H H' : Hp} (k : ∀ a vs, H a = some (.tup vs) → H' a = some (.tup vs)) : ∀ {ks : List NestedKey} {xs : List V}, NVs H ks xs → NVs H' ks xs
  | [], _, q => by cases q; exact .nil
  | _ :: _, _, q => by cases q with | cons h t => exact .cons (NV.up k h) (NVs.up k t)
end
theorem NV.noStr {H : Hp} {k : NestedKey} {x : V} {u : Value} (q : NV H k x) (r : RelV x u) : ∀ y t, u ≠ .str y t := by
  intro y t e
  cases q with
  | non => rw [show u = Value.none from r] at e; cases e
  | @bl b _ _ => rw [show u = Value.bool b from r] at e; cases e
  | int i => obtain ⟨t', e'⟩ := (show ∃ t, u = Value.int i t from r); rw [e'] at e; cases e
  | @tup a _ _ _ _ => rw [show u = Value.ref a from r] at e; cases e
/-- the entries, by values -/
inductive EntV (w : World) (H : Hp) : List DictEntry → List (NestedKey × V) → Prop
  | nil : EntV w H [] []
  | cons {k : NestedKey} {x y : V} {u r : Value} {es : List DictEntry} {xs : List (NestedKey × V)} (hk : NV H k x) (rk : RelV x u) (dp : k.depth ≤ 8) (rv : RelV y r) (t : EntV w H es xs) : EntV w H (⟨k.hash w, u, r⟩ :: es) ((k, y) :: xs)
theorem EntV.up {w : World} {H H' : Hp} (k : ∀ a vs, H a = some (.tup vs) → H' a = some (.tup vs)) {es : List DictEntry} {xs : List (NestedKey × V)} (e : EntV w H es xs) : EntV w H' es xs := by
  induction e with
  | nil => exact .nil
  | cons hk rk dp rv _ ih => exact .cons (hk.up k) rk dp rv ih
theorem EntV.snoc {w : World} {H : Hp} {k : NestedKey} {x y : V} {u r : Value} {es : List DictEntry} {xs : List (NestedKey × V)} (e : EntV w H es xs) (hk : NV H k x) (rk : RelV x u) (dp : k.depth ≤ 8) (rv : RelV y r) : EntV w H (es ++ [⟨k.hash w, u, r⟩]) (xs ++ [(k, y)]) := by
  induction e with
  | nil => exact .cons hk rk dp rv .nil
  | cons a b c d _ ih => exact .cons a b c d ih
theorem EntV.modify {w : World} {H : Hp} {k : NestedKey} {y : V} {r : Value} (rv : RelV y r) : ∀ {es : List DictEntry} {xs : List (NestedKey × V)} {i : Nat} {z : V}, EntV w H es xs → (xs.map (·.1)).Nodup → xs[i]? = some (k, z) →
    EntV w H (es.modify i fun e => { e with val := r }) (xs.map fun p => if p.1 = k then (p.1, y) else p)
  | _, _, i, z, .nil, _, hx => by simp at hx
  | _, _, 0, z, .cons (k := k') (xs := xs) hk rk dp rv' t, hn, hx => by
    injection hx with hx
    injection hx with h1 h2
    subst h1
    rw [List.map_cons, if_pos rfl]
    have : xs.map (fun p => if p.1 = k' then (p.1, y) else p) = xs := by
      conv => rhs; rw [← List.map_id xs]
      refine List.map_congr_left fun p hp => ?_
      rw [if_neg]
      · rfl
      · exact fun e => (List.nodup_cons.mp hn).1 (List.mem_map.mpr ⟨p, hp, e⟩)
    rw [this]
    exact .cons hk rk dp rv t
  | _, _, i + 1, z, .cons (k := k') hk rk dp rv' t, hn, hx => by
    have hx' := hx
    rw [List.getElem?_cons_succ] at hx'
    rw [List.map_cons, if_neg]
    · exact .cons hk rk dp rv' (t.modify rv (List.nodup_cons.mp hn).2 hx')
    · intro e
      exact (List.nodup_cons.mp hn).1 (List.mem_map.mpr ⟨_, List.mem_of_getElem? hx', e.symm⟩)
/-- the values of the pairs are told -/
abbrev PVs : List (NestedKey × V) → List (NestedKey × Value) → Prop := Paired fun p q => p.1 = q.1 ∧ RelV p.2 q.2
theorem EntV.ents {P : Program} {w : World} {H : Hp} {h : Heap} (ok : HOk P w H h) {es : List DictEntry} {xs : List (NestedKey × V)} (e : EntV w H es xs) : ∃ ys, Ents w h es ys ∧ PVs xs ys := by
  induction e with
  | nil => exact ⟨[], .nil, .nil⟩
  | @cons k x y u r es xs hk rk dp rv _ ih =>
    obtain ⟨ys, h1, h2⟩ := ih
    exact ⟨(k, r) :: ys, .cons (hk.is ok rk) dp h1, .cons ⟨rfl, rv⟩ h2⟩
theorem PVs.keys {xs : List (NestedKey × V)} {ys : List (NestedKey × Value)} (p : PVs xs ys) : xs.map (·.1) = ys.map (·.1) := by
  induction p with
  | nil => rfl
  | cons h _ ih => rw [List.map_cons, List.map_cons, h.1, ih]
theorem PVs.val {xs : List (NestedKey × V)} {ys : List (NestedKey × Value)} (p : PVs xs ys) (k : NestedKey) : RelO (val xs k) (MixD.val ys k) := by
  unfold MixD.val
  induction p with
  | nil => exact True.intro
  | @cons a b as bs h _ ih =>
    rw [List.find?_cons, List.find?_cons, ← h.1]
    by_cases e : a.1 = k
    · simp only [e, decide_true, Option.map_some]
      exact h.2
    · simp only [e, decide_false]
      exact ih
theorem PVs.at {xs : List (NestedKey × V)} {ys : List (NestedKey × Value)} (p : PVs xs ys) : ∀ {i : Nat} {k : NestedKey} {x : Value}, ys[i]? = some (k, x) → ∃ z, xs[i]? = some (k, z) := by
  induction p with
  | nil => intro i k x h; simp at h
  | @cons a b as bs h _ ih =>
    intro i k x q
    cases i with
    | zero =>
      injection q with q
      refine ⟨a.2, ?_⟩
      rw [List.getElem?_cons_zero, show a = (k, a.2) from Prod.ext (by rw [h.1, q]) rfl]
    | succ i => exact ih q
def mixO (d : Addr) (ents : List DictEntry) : HO := .ext fun h => RawD h d ents
theorem mixO_ok {P : Program} {w : World} {H : Hp} {h : Heap} {d : Addr} {es : List DictEntry} (r : RawD h d es) : ObjOk P w H h d (mixO d es) :=
  ⟨r, let ⟨o, _, _, ho, _⟩ := r; ⟨o, ho⟩, fun h1 h2 ⟨o, l, ep, ho, x⟩ k => ⟨o, l, ep, k o ho, x⟩⟩
/-- at d stands a dict with these keys and values -/
def XD (w : World) (H : Hp) (d : Addr) (xs : List (NestedKey × V)) : Prop :=
  (d == sysModules) = false ∧ xs.length ≤ sizeLine ∧ (xs.map (·.1)).Nodup ∧ ∃ es, H d = some (mixO d es) ∧ EntV w H es xs
theorem XD.up {w : World} {H H' : Hp} {d : Addr} {xs : List (NestedKey × V)} (x : XD w H d xs) (k : ∀ a vs, H a = some (.tup vs) → H' a = some (.tup vs)) (e : H' d = H d) : XD w H' d xs := by
  obtain ⟨a, b, c, es, e1, e2⟩ := x
  exact ⟨a, b, c, es, by rw [e, e1], e2.up k⟩
theorem XD.ne {w : World} {H : Hp} {d a : Addr} {xs : List (NestedKey × V)} {vs : List V} (x : XD w H d xs) (e : H a = some (.tup vs)) : a ≠ d := by
  obtain ⟨_, _, _, es, e1, _⟩ := x
  intro q
  rw [q, e1] at e
  cases e
section
variable {X : Cx} {pins : List (Addr × Obj)} {σ : L2.St} {H : Hp} {s : Shared} {d : Addr} {xs : List (NestedKey × V)} {k : NestedKey} {x y : V} {u : Value} {A : Around} {E : Value → Shared → Prop}
theorem XD.mix (I : Inv X pins σ H s) (m : XD X.w H d xs) : ∃ ys, Mixd X.w s.heap d ys ∧ PVs xs ys := by
  obtain ⟨_, _, hn, es, e1, e2⟩ := m
  obtain ⟨⟨o, l, ep, ho, hc, hd, el⟩, _, _⟩ := (show ObjOk X.prog X.w H s.heap d (mixO d es) from I.hok d _ e1)
  obtain ⟨ys, h1, h2⟩ := e2.ents I.hok
  exact ⟨ys, ⟨o, l, ep, ho, hc, hd, by rw [el]; exact h1, by rw [← h2.keys]; exact hn⟩, h2⟩
theorem xd_item {Q : Value → Shared → Prop} (hu : A.units + 9 < cLine) (I : Inv X pins σ H s) (m : XD X.w H d xs) (q : NV H k x) (r : RelV x u) (dp : k.depth ≤ 8) (hv : val xs k = some y)
    (h : ∀ v s', Inv X pins σ H s' → RelV y v → Q v s') : wpAny (model X.prog X.w) A (getItem (.ref d) u) Q E s := by
  obtain ⟨ys, hm, hp⟩ := m.mix I
  obtain ⟨v, e, rv⟩ := RelO.some_of (v := y) (o := val ys k) (by rw [← hv]; exact hp.val k)
  exact item_mix hu (q.is I.hok r) dp (q.noStr r) hm e (h v _ (I.tok _) rv)
theorem xd_has {Q : Bool → Shared → Prop} (hu : A.units + 9 < cLine) (I : Inv X pins σ H s) (m : XD X.w H d xs) (q : NV H k x) (r : RelV x u) (dp : k.depth ≤ 8)
    (h : ∀ s', Inv X pins σ H s' → Q (val xs k).isSome s') : wpAny (model X.prog X.w) A (contains (.ref d) u) Q E s := by
  obtain ⟨ys, hm, hp⟩ := m.mix I
  refine has_mix hu (q.is I.hok r) dp (q.noStr r) m.1 hm ?_
  rw [← (hp.val k).isSome_eq]
  exact h _ (I.tok _)
theorem put_len {α : Type} (xs : List (NestedKey × α)) (k : NestedKey) (y : α) : (put xs k y).length ≤ xs.length + 1 := by
  unfold put
  split
  · rw [List.length_map]; exact Nat.le_succ _
  · rw [List.length_append]; exact Nat.le_refl _
theorem put_nodup {α : Type} {xs : List (NestedKey × α)} (hn : (xs.map (·.1)).Nodup) (k : NestedKey) (y : α) : ((put xs k y).map (·.1)).Nodup := by
  unfold put
  split
  · rw [List.map_map]
    have : ((fun p : NestedKey × α => p.1) ∘ fun p => if p.1 = k then (p.1, y) else p) = fun p => p.1 := by
      funext p
      by_cases e : p.1 = k <;> simp [e]
    rw [this]
    exact hn
  · rename_i hno
    rw [List.map_append, List.nodup_append]
    refine ⟨hn, by simp, fun x hx z hz => ?_⟩
    rw [List.map_cons, List.map_nil, List.mem_singleton] at hz
    rw [hz]
    intro e
    rw [e] at hx
    exact hno hx
/-- what stands behind a store -/
theorem xd_after {v : Value} {es es' : List DictEntry} {ys : List (NestedKey × Value)} {h' : Heap} {t' : Nat} (I : Inv X pins σ H s) (m : XD X.w H d xs) (e1 : H d = some (mixO d es)) (e2 : EntV X.w H es xs) (h2 : PVs xs ys) (q : NV H k x) (r : RelV x u) (dp : k.depth ≤ 8) (rv : RelV y v) (hl : xs.length < sizeLine)
    (raw' : RawD h' d es') (pe : PutE X.w es es' ys k u v) (hs : Heap.SameBut d s.heap h') : XD X.w (upd H d (mixO d es')) d (put xs k y) ∧ Inv X pins σ (upd H d (mixO d es')) { s with heap := h', toks := t' } := by
  obtain ⟨hsm, _, hn, _⟩ := id m
  have tups : ∀ a vs, H a = some (.tup vs) → upd H d (mixO d es') a = some (.tup vs) := fun a vs e => by rw [upd_ne (m.ne e)]; exact e
  refine ⟨⟨hsm, Nat.le_trans (put_len _ _ _) hl, put_nodup hn k y, es', by rw [upd_same], ?_⟩, (I.write (x := d) (e := d) (by rw [e1]; exact True.intro) (.inl rfl) (fun b ob hb z => (hs.2 b hb).trans z) (let ⟨o, _, _, ho, _⟩ := raw'; ⟨o, ho⟩) (mixO_ok raw'))⟩
  refine EntV.up tups ?_
  rcases pe with ⟨hno, rfl⟩ | ⟨i, z, hi, rfl⟩
  · rw [← h2.keys] at hno
    rw [put, if_neg hno]
    exact e2.snoc q r dp rv
  · obtain ⟨z', hz⟩ := h2.at hi
    rw [put, if_pos (List.mem_map.mpr ⟨_, List.mem_of_getElem? hz, rfl⟩)]
    exact e2.modify rv hn hz
/-- the heap behind d[k] = y -/
theorem xd_put {v : Value} {Q : Unit → Shared → Prop} (hu : A.units + 9 < cLine) (I : Inv X pins σ H s) (m : XD X.w H d xs) (q : NV H k x) (r : RelV x u) (dp : k.depth ≤ 8) (rv : RelV y v) (hl : xs.length < sizeLine)
    (h : ∀ es s', XD X.w (upd H d (mixO d es)) d (put xs k y) → Inv X pins σ (upd H d (mixO d es)) s' → Q () s') : wpAny (model X.prog X.w) A (setItem (.ref d) u v) Q E s := by
  obtain ⟨hsm, _, hn, es, e1, e2⟩ := id m
  obtain ⟨raw, _, _⟩ := (show ObjOk X.prog X.w H s.heap d (mixO d es) from I.hok d _ e1)
  obtain ⟨ys, h1, h2⟩ := e2.ents I.hok
  have hlen : ys.length = xs.length := by rw [← List.length_map (f := fun p : NestedKey × Value => p.1), ← h2.keys, List.length_map]
  refine setItem_mix hu (q.is I.hok r) dp (q.noStr r) raw h1 (by rw [← h2.keys]; exact hn) (by omega) fun h' es' raw' pe hs => ?_
  obtain ⟨a, b⟩ := xd_after (t' := s.toks + k.draws) I m e1 e2 h2 q r dp rv hl raw' pe hs
  exact h es' _ a b
/-- the same, in a display -/
theorem xd_set {v : Value} {Q : Unit → Shared → Prop} (hu : A.units + 9 < cLine) (I : Inv X pins σ H s) (m : XD X.w H d xs) (q : NV H k x) (r : RelV x u) (dp : k.depth ≤ 8) (rv : RelV y v) (hl : xs.length < sizeLine)
    (h : ∀ es s', XD X.w (upd H d (mixO d es)) d (put xs k y) → Inv X pins σ (upd H d (mixO d es)) s' → Q () s') : wpAny (model X.prog X.w) A (dictSet d u v) Q E s := by
  obtain ⟨hsm, _, hn, es, e1, e2⟩ := id m
  obtain ⟨raw, _, _⟩ := (show ObjOk X.prog X.w H s.heap d (mixO d es) from I.hok d _ e1)
  obtain ⟨ys, h1, h2⟩ := e2.ents I.hok
  have hlen : ys.length = xs.length := by rw [← List.length_map (f := fun p : NestedKey × Value => p.1), ← h2.keys, List.length_map]
  refine set_mix (by omega) (q.is I.hok r) dp (q.noStr r) raw h1 (by rw [← h2.keys]; exact hn) (by omega) fun h' es' raw' pe hs => ?_
  obtain ⟨a, b⟩ := xd_after (t' := s.toks + k.draws) I m e1 e2 h2 q r dp rv hl raw' pe hs
  exact h es' _ a b
end
/-- d[y] -/
def tXGet (w : World) (td ty : TE) : TE := fun σ H Q => td σ H fun x H1 => ty σ H1 fun y H2 => ∃ d xs k v, x = .ref d ∧ XD w H2 d xs ∧ NV H2 k y ∧ k.depth ≤ 8 ∧ val xs k = some v ∧ Q v H2
def tXNotIn (w : World) (ty td : TE) : TE := fun σ H Q => ty σ H fun y H1 => td σ H1 fun x H2 => ∃ d xs k, x = .ref d ∧ XD w H2 d xs ∧ NV H2 k y ∧ k.depth ≤ 8 ∧ Q (.bl (!(val xs k).isSome)) H2
def sXPut (w : World) (td ty tv : TE) : TS := fun D σ H => tv σ H fun v H1 => td σ H1 fun x H2 => ty σ H2 fun y H3 => ∃ d xs k, x = .ref d ∧ XD w H3 d xs ∧ NV H3 k y ∧ k.depth ≤ 8 ∧ xs.length < sizeLine ∧
  ∀ es, XD w (upd H3 d (mixO d es)) d (put xs k v) → D.nx σ (upd H3 d (mixO d es))
section
variable {X : Cx} {o i value : Expr} {pos pos' : Pos} {td ty tv : TE}
theorem XD.typeIs {pins : List (Addr × Obj)} {σ : L2.St} {H : Hp} {s : Shared} {d : Addr} {xs : List (NestedKey × V)} (I : Inv X pins σ H s) (m : XD X.w H d xs) : s.TypeIs (.ref d) "dict" := let ⟨_, hm, _⟩ := m.mix I; hm.type
theorem pe_xget (hu : X.A.units + 9 < cLine) (ho : PE X o td) (hi : PE X i ty) (hs : NoSl i) : PE X (.Subscript o i pos) (tXGet X.w td ty) := by
  refine ⟨fun pins s σ H Q I h => ?_⟩
  refine subD_of PySem.F.slot_dict_getitem.lookup hs (thn (ho.run pins s σ H _ I h) fun u s1 ⟨x, H1, I1, rx, q1⟩ => thn (hi.run pins s1 σ H1 _ I1 q1) fun iv s2 ⟨y, H2, I2, ry, d, xs, k, v, ex, m, nv, dp, hv, q2⟩ => ?_)
  subst ex
  obtain rfl : u = Value.ref d := rx
  exact ⟨m.typeIs I2, xd_item hu I2 m nv ry dp hv fun w' s3 I3 rw' => ⟨v, H2, I3, rw', q2⟩⟩
theorem pc_xnotin (hu : X.A.units + 9 < cLine) (hi : PE X i ty) (ho : PE X o td) : PC X .NotIn i o (tXNotIn X.w ty td) := by
  refine ⟨fun pins s σ H Q I h => ?_⟩
  refine thn (hi.run pins s σ H _ I h) fun iv s1 ⟨y, H1, I1, ry, q1⟩ => thn (ho.run pins s1 σ H1 _ I1 q1) fun u s2 ⟨x, H2, I2, rx, d, xs, k, ex, m, nv, dp, q2⟩ => ?_
  subst ex
  obtain rfl : u = Value.ref d := rx
  show wpAny _ _ (contains (.ref d) iv >>= fun b => pure (Value.bool (!b))) _ _ _
  refine wpAny_bind (xd_has hu I2 m nv ry dp fun s3 I3 => wpAny_pure ⟨.bl (!(val xs k).isSome), H2, I3, rfl, q2⟩)
theorem ps_xput (hu : X.A.units + 9 < cLine) (ho : PE X o td) (hi : PE X i ty) (hv : PE X value tv) (hs : swapsWith value (some (.Subscript o i pos')) pos.line X.env = pure false) :
    PS X (.Assign [.Subscript o i pos'] value pos) (sXPut X.w td ty tv) := by
  refine ⟨fun pins s σ H D I h => ?_⟩
  refine wpAny_Assign_Subscript (thn (hv.run pins s σ H _ I h) fun r s1 ⟨v, H1, I1, rv, q1⟩ => thn (ho.run pins s1 σ H1 _ I1 q1) fun u s2 ⟨x, H2, I2, rx, q2⟩ => thn (hi.run pins s2 σ H2 _ I2 q2) fun iv s3 ⟨y, H3, I3, ry, d, xs, k, ex, m, nv, dp, hl, q3⟩ => ?_) hs
  subst ex
  obtain rfl : u = Value.ref d := rx
  exact xd_put hu I3 m nv ry dp rv hl fun es s4 m4 I4 => ⟨σ, _, I4, q3 es m4⟩
/-- {}, and {k: v} -/
def tXNew (w : World) : TE := fun _ H Q => ∀ p, H p = none → XD w (upd H p (mixO p [])) p [] → Q (.ref p) (upd H p (mixO p []))
theorem xd_new {pins : List (Addr × Obj)} {σ : L2.St} {H : Hp} {s : Shared} (I : Inv X pins σ H s) : Inv X pins σ (upd H s.heap.objs.size (mixO s.heap.objs.size [])) { s with heap := s.heap.push { cls := .type "dict", data := .dict #[] } } ∧ XD X.w (upd H s.heap.objs.size (mixO s.heap.objs.size [])) s.heap.objs.size [] := by
  have raw : RawD (s.heap.push { cls := .type "dict", data := .dict #[] }) s.heap.objs.size [] := ⟨_, #[], 0, Heap.get?_push_size _ rfl, ⟨rfl, rfl, rfl⟩, rfl, rfl⟩
  exact ⟨I.laid (a := s.heap.objs.size) (o := mixO s.heap.objs.size []) (t' := s.toks) (fun _ _ q => Heap.get?_push_of_some _ q) (Nat.le_refl _) (mixO_ok raw), beq_eq_false_iff_ne.mpr (Ne.symm (Nat.ne_of_lt I.big)), Nat.zero_le _, List.nodup_nil, [], upd_same, .nil⟩
theorem pe_xnew : PE X (.Dict [] [] pos) (tXNew X.w) := ⟨fun pins s σ H Q I h => by
  obtain ⟨a, b⟩ := xd_new I
  exact wpAny_Dict_empty ⟨.ref s.heap.objs.size, _, a, rfl, h _ (I.hok.fresh (Nat.le_refl _)) b⟩⟩
def tXDisp (w : World) (tk tv : TE) : TE := fun σ H Q => ∀ p, H p = none → tk σ (upd H p (mixO p [])) fun x H1 => tv σ H1 fun y H2 => H2 p = some (mixO p []) ∧ ∃ k, NV H2 k x ∧ k.depth ≤ 8 ∧
  ∀ es, XD w (upd H2 p (mixO p es)) p [(k, y)] → Q (.ref p) (upd H2 p (mixO p es))
theorem pe_xdisp {k v : Expr} {tk tv : TE} (hu : X.A.units + 9 < cLine) (hk : PE X k tk) (hv : PE X v tv) : PE X (.Dict [some k] [v] pos) (tXDisp X.w tk tv) := by
  refine ⟨fun pins s σ H Q I h => ?_⟩
  have hn := I.hok.fresh (Nat.le_refl s.heap.objs.size)
  obtain ⟨I1, _⟩ := xd_new I
  have hz := zip_pairTrees [some k] [v] X.env pos rfl rfl
  rw [arm_eval_Dict, hz, dictDisplay_pairs _ (by simp [pairTrees]) (by simp [pairTrees])]
  refine wpAny_bind (wpAny_standAt (wpAny_bind ?_))
  unfold subDict
  refine wpAny_bind (wpAny_alloc ?_)
  refine wpAny_bind (wpAny_holding ?_)
  rw [if_pos (by simp [pairTrees])]
  have z : wpAny (model X.prog X.w) X.A (evalPairs (pairTrees [some k] [v] X.env pos)) (fun ws s1 => ∃ x y u r H2, ws = [(u, r)] ∧ Inv X pins σ H2 s1 ∧ H2 s.heap.objs.size = some (mixO s.heap.objs.size []) ∧ RelV x u ∧ RelV y r ∧ ∃ k, NV H2 k x ∧ k.depth ≤ 8 ∧
      ∀ es, XD X.w (upd H2 s.heap.objs.size (mixO s.heap.objs.size es)) s.heap.objs.size [(k, y)] → Q (.ref s.heap.objs.size) (upd H2 s.heap.objs.size (mixO s.heap.objs.size es))) X.xe { s with heap := s.heap.push { cls := .type "dict", data := .dict #[] } } :=
    pairTrees_cons_walk (thn (hk.run pins _ σ _ _ I1 (h _ hn)) fun u s1 ⟨x, H1, I2, rx, q1⟩ => thn (hv.run pins s1 σ H1 _ I2 q1) fun r s2 ⟨y, H2, I3, ry, e2, kk, nv, dp, q2⟩ => pairTrees_nil_walk ⟨x, y, u, r, H2, rfl, I3, e2, rx, ry, kk, nv, dp, q2⟩)
  refine wpAny_bind (wpAny_mono z (fun ws s1 hh => ?_) fun _ _ z => z)
  obtain ⟨x, y, u, r, H2, rfl, I3, e2, rx, ry, kk, nv, dp, q2⟩ := hh
  have m : XD X.w H2 s.heap.objs.size [] := ⟨beq_eq_false_iff_ne.mpr (Ne.symm (Nat.ne_of_lt I.big)), Nat.zero_le _, List.nodup_nil, [], e2, .nil⟩
  refine wpAny_holding ?_
  refine wpAny_bind ?_
  rw [List.forIn_cons]
  refine wpAny_bind (wpAny_bind (xd_set hu I3 m nv rx dp ry (by rw [List.length_nil, sizeLine_eq]; omega) fun es s2 m2 I4 => wpAny_pure ?_))
  dsimp only
  rw [List.forIn_nil]
  exact wpAny_pure (wpAny_pure (wpAny_pure (wpAny_pure ⟨.ref s.heap.objs.size, _, I4, rfl, q2 es m2⟩)))
end
end MixD
set_option maxHeartbeats 4000000
namespace ZpR
open PySem PySem.Spec PyProof.Rows
section
variable {prog : Program} {w : World} {A : Around} {E : Value → Shared → Prop} {s : Shared} {n : Nat}
theorem draws_range (it : Addr) : DrawI prog w A it [it] n (fun i v => ∃ t, v = .int i t) (fun i h => IsRangeIter h it i ((n : Int) - i) 1) where
  live := fun i h st => ⟨_, st⟩
  frame := fun i h h' st k => k it (by simp) _ st
  item := fun i s Q E hi st hQ => by
    have hT : s.TypeIs (.ref it) "range_iterator" := ⟨_, st, rfl⟩
    unfold Builtin.SmallTypes.nextOf
    refine wpAny_bind (wpAny_callSpecial?_slot (name := Str.ofString "__next__") hT F.slot_range_iterator_next
      (call_meets F.slot_range_iterator_next hT F.entry_range_iterator_next (F.args_range_iterator_next_1 _) (AutoRange.range_iterator___next___range_iterator_1 it _ _ _ (by omega)) ⟨st, ?_⟩))
    refine wpAny_pure (hQ _ _ _ ⟨_, rfl⟩ ?_ ((Heap.SameBut.update ..).trans (Heap.SameBut.update ..)))
    have e := Heap.get?_update_self (Obj.mapFields fun x => x.setIfInBounds 1 (rawInt ((n : Int) - i - 1))) (Heap.get?_update_self (Obj.mapFields fun x => x.setIfInBounds 0 (rawInt ((i : Int) + 1))) st rfl) rfl
    have e1 : ((i + 1 : Nat) : Int) = (i : Int) + 1 := by omega
    have e2 : (n : Int) - ((i : Int) + 1) = (n : Int) - i - 1 := by omega
    rw [e1, e2]
    exact e
def drR (it : Addr) : Dr prog w A n := ⟨it, [it], _, _, draws_range it, by simp⟩
def dsLR (hh : A.handled = none) (i1 i2 l : Addr) (hne : l ≠ i1) (items : Array Value) (hn : items.size = n) : List (Dr prog w A n) := [drL hh i1 l hne items hn, drR i2]
/-- the places of zip(a list, a range) -/
structure Apt (z TI TO i1 i2 l : Addr) : Prop where
  nd : [z, TI, TO, i1, i2].Nodup
  ln : l ∉ [z, TO, i1, i2]
theorem Apt.sep (D : Apt z TI TO i1 i2 l) (hh : A.handled = none) (hne : l ≠ i1) (items : Array Value) (hn : items.size = n) : Sep (dsLR (prog := prog) (w := w) hh i1 i2 l hne items hn) z TI TO := by
  obtain ⟨nd, ln⟩ := D
  simp only [List.nodup_cons, List.mem_cons, List.not_mem_nil, or_false, not_or, List.nodup_nil, and_true, not_false_eq_true] at nd ln
  obtain ⟨⟨a1, a2, a3, a4⟩, ⟨b1, b2, b3⟩, ⟨c1, c2⟩, d1⟩ := nd
  obtain ⟨e1, e2, e3, e4⟩ := ln
  refine ⟨fun d hd => ?_, fun d hd => ?_, fun d hd => ?_, ?_, fun q => a1 q.symm, fun q => a2 q.symm, b1, by simp [dsLR], fun d hd => ?_⟩
  · rcases List.mem_cons.mp hd with rfl | hd
    · simp only [drL, List.mem_cons, List.not_mem_nil, or_false, not_or]
      exact ⟨a3, fun q => e1 q.symm⟩
    · rw [List.mem_singleton.mp hd]
      simpa [drR] using a4
  · rcases List.mem_cons.mp hd with rfl | hd
    · exact b2
    · rw [List.mem_singleton.mp hd]; exact b3
  · rcases List.mem_cons.mp hd with rfl | hd
    · simp only [drL, List.mem_cons, List.not_mem_nil, or_false, not_or]
      exact ⟨c1, fun q => e2 q.symm⟩
    · rw [List.mem_singleton.mp hd]
      simpa [drR] using c2
  · refine .cons (fun b hb => ?_) (List.pairwise_singleton _ _)
    rw [List.mem_singleton.mp hb]
    refine ⟨?_, ?_⟩
    · simpa [drL, drR] using d1
    · simp only [drL, drR, List.mem_cons, List.not_mem_nil, or_false, not_or]
      exact ⟨fun q => d1 q.symm, fun q => e4 q.symm⟩
  · obtain rfl : d = drL hh i1 l hne items hn := by simpa [dsLR] using hd.symm
    exact drL_fin _ _ _ _ _ _
structure OKz (n : Nat) (z TI TO i1 i2 l : Addr) (items : Array Value) (h : Heap) : Prop where
  z : IsZip h z TI TO .none
  hTI : IsTup h TI [.ref i1, .ref i2]
  hTO : IsTup h TO [.none, .none]
  i1 : h.IsListIter i1 l 0
  l : h.IsList l items
  i2 : IsRangeIter h i2 0 n 1
theorem OKz.keep {z TI TO i1 i2 l : Addr} {items : Array Value} {h h' : Heap} (o : OKz n z TI TO i1 i2 l items h) (k : ∀ b x, h.get? b = some x → h'.get? b = some x) : OKz n z TI TO i1 i2 l items h' :=
  ⟨k _ _ o.z, k _ _ o.hTI, k _ _ o.hTO, o.i1.at fun x e => k _ x e, o.l.at fun x e => k _ x e, k _ _ o.i2⟩
theorem pairArg_LR {z TI TO i1 i2 l : Addr} (D : Apt z TI TO i1 i2 l) (items : Array Value) (hn : items.size = n) :
    PairArg prog w "zip" z [z, TI, TO, i1, i2, l] [z, TO, i1, i2] n (fun i k v => items[i]? = some k ∧ ∃ t, v = .int i t) (OKz n z TI TO i1 i2 l items) where
  type := fun s ok => ⟨_, ok.z, rfl⟩
  notDict := by decide
  keep := fun h h' ok hk => ok.keep hk
  there := fun h ok b hb => by
    obtain ⟨⟨o1, h1, _⟩, ⟨o2, h2, _⟩⟩ := And.intro ok.i1 ok.l
    simp only [List.mem_cons, List.not_mem_nil, or_false] at hb
    rcases hb with rfl | rfl | rfl | rfl | rfl | rfl
    · exact ⟨_, ok.z⟩
    · exact ⟨_, ok.hTI⟩
    · exact ⟨_, ok.hTO⟩
    · exact ⟨_, h1⟩
    · exact ⟨_, ok.i2⟩
    · exact ⟨_, h2⟩
  sub := fun b hb => by simp at hb ⊢; rcases hb with rfl | rfl | rfl | rfl <;> simp
  noKeys := fun A s Q E hA ok h => getAttrOr_miss_zip ok.z rfl rfl rfl zip_no_keys (by decide +kernel) hA h
  iter := fun A s d Q E hA ok hd hdf h => by
    have hA1 : A.in1.handled = none := hA
    have hne : l ≠ i1 := fun q => D.ln (by simp [q])
    have S := D.sep (prog := prog) (w := w) (A := A.in1) hA1 hne items hn
    have dn : d ≠ z ∧ d ≠ TI ∧ d ≠ TO ∧ d ≠ i1 ∧ d ≠ i2 ∧ d ≠ l := by simpa using hdf
    have hL : d ≠ z ∧ d ≠ TI ∧ d ≠ TO ∧ ∀ e ∈ dsLR (prog := prog) (w := w) hA1 i1 i2 l hne items hn, d ∉ e.fp := ⟨dn.1, dn.2.1, dn.2.2.1, fun e he => by
      rcases List.mem_cons.mp he with rfl | he
      · simp only [drL, List.mem_cons, List.not_mem_nil, or_false, not_or]; exact ⟨dn.2.2.2.1, dn.2.2.2.2.2⟩
      · rw [List.mem_singleton.mp he]; simpa [drR] using dn.2.2.2.2.1⟩
    have hits : its (dsLR (prog := prog) (w := w) hA1 i1 i2 l hne items hn) = [.ref i1, .ref i2] := rfl
    have Z0 : Zi (dsLR (prog := prog) (w := w) hA1 i1 i2 l hne items hn) z TI TO d 0 s.heap := ⟨ok.hTI, fun e he => by
      rcases List.mem_cons.mp he with rfl | he
      · exact ⟨ok.i1, ok.l⟩
      · rw [List.mem_singleton.mp he]
        show IsRangeIter s.heap i2 ((0 : Nat) : Int) ((n : Int) - (0 : Nat)) 1
        have q := ok.i2
        simpa using q, .inl ⟨ok.z, _, ok.hTO, rfl⟩⟩
    have hwr : ∀ {b : Addr}, b ∉ [z, TO, i1, i2] → b ≠ z ∧ b ≠ TO ∧ ∀ e ∈ dsLR (prog := prog) (w := w) hA1 i1 i2 l hne items hn, b ≠ e.it := fun {b} hb => by
      simp only [List.mem_cons, List.not_mem_nil, or_false, not_or] at hb
      refine ⟨hb.1, hb.2.1, fun e he => ?_⟩
      rcases List.mem_cons.mp he with rfl | he
      · exact hb.2.2.1
      · rw [List.mem_singleton.mp he]; exact hb.2.2.2
    refine pyIter_zip Z0 (h z [z, TO, i1, i2] (fun i h => Zi (dsLR (prog := prog) (w := w) hA1 i1 i2 l hne items hn) z TI TO d i h) s.heap s.toks ?_ Z0 (fun _ _ e => e) fun b hb => .inl hb)
    exact {
      off := fun hm => by
        simp only [List.mem_cons, List.not_mem_nil, or_false] at hm
        rcases hm with e | e | e | e
        · exact dn.1 e
        · exact dn.2.2.1 e
        · exact dn.2.2.2.1 e
        · exact dn.2.2.2.2.1 e
      frame := fun i h₁ h₂ st hk => st.frame hL hk
      item := fun i s₁ Q₁ E₁ hi st hds hQ => pyNext_item S st hi (by simp [dsLR, sizeLine_eq]) hds fun xs h' tk r Z' hT hs' kp => by
        cases r with
        | @cons _ _ x _ p r => cases r with
          | @cons _ _ y _ p2 r => cases r with
            | nil => exact hQ s₁.heap.objs.size x y h' tk ⟨p, p2⟩ (.inl ⟨_, hT, rfl, _, rfl⟩) Z' fun b o hb e => kp b o (hwr hb).1 (hwr hb).2.1 (hwr hb).2.2 e
      done := fun s₁ Q₁ E₁ st hQ => pyNext_end S st fun h' tk kp => hQ h' tk fun b o hb e => kp b o (hwr hb).1 (hwr hb).2.1 (hwr hb).2.2 e }
/-- zip(a list, a range) is made -/
theorem call_zip_LR {l r : Addr} {items : Array Value} {t u v : Tok} {Q : Value → Shared → Prop} (hl : s.heap.IsList l items) (hn : items.size = n) (hr : IsRange s.heap r 0 n 1 t u v) (hsm : Builtin.Range.small 0 n 1 = true) (hsz : Builtin.Range.rangeSize 0 n 1 = n)
    (hQ : ∀ z TI TO i1 i2 h', Apt z TI TO i1 i2 l → OKz n z TI TO i1 i2 l items h' → (∀ b ∈ [z, TI, TO, i1, i2], s.heap.objs.size ≤ b) → (∀ b o, s.heap.get? b = some o → h'.get? b = some o) → s.heap.objs.size ≤ h'.objs.size → Q (.ref z) { s with heap := h' }) :
    wpAny (model prog w) A (call (.type "zip") [.ref l, .ref r]) Q E s := by
  refine call_zipN ?_
  unfold Builtin.SmallTypes.iterAll
  refine wpAny_bind ?_
  simp only [List.forIn_cons, List.forIn_nil]
  refine wpAny_bind (wpAny_bind (wpAny_holding (wpAny_pyIter_list hl (wpAny_pure ?_))))
  have hr1 : IsRange (s.heap.push { cls := .type "list_iterator", data := .fields #[.ref l, .int 0 0] }) r 0 n 1 t u v := Heap.get?_push_of_some _ hr
  refine wpAny_bind (wpAny_bind (wpAny_holding (wpAny_pyIter_range (s := { s with heap := _ }) hr1 hsm (wpAny_pure ?_))))
  dsimp only
  refine wpAny_pure (wpAny_pure ⟨by simp [sizeLine_eq], ?_⟩)
  have g1 := Heap.get?_push_size s.heap (o := { cls := .type "list_iterator", data := .fields #[.ref l, .int 0 0] }) rfl
  have k1 : ∀ b o, s.heap.get? b = some o → (s.heap.push { cls := .type "list_iterator", data := .fields #[.ref l, .int 0 0] }).get? b = some o := fun b o e => Heap.get?_push_of_some _ e
  have z1 := Heap.size_push s.heap { cls := .type "list_iterator", data := .fields #[.ref l, .int 0 0] }
  generalize s.heap.push { cls := .type "list_iterator", data := .fields #[.ref l, .int 0 0] } = h1 at g1 k1 z1 ⊢
  have g2 := Heap.get?_push_size h1 (o := { cls := .type "range_iterator", data := .fields #[rawInt 0, rawInt (Builtin.Range.rangeSize 0 n 1), rawInt 1] }) rfl
  have k2 : ∀ b o, h1.get? b = some o → (h1.push { cls := .type "range_iterator", data := .fields #[rawInt 0, rawInt (Builtin.Range.rangeSize 0 n 1), rawInt 1] }).get? b = some o := fun b o e => Heap.get?_push_of_some _ e
  have z2 := Heap.size_push h1 { cls := .type "range_iterator", data := .fields #[rawInt 0, rawInt (Builtin.Range.rangeSize 0 n 1), rawInt 1] }
  rw [hsz] at g2 k2 z2 ⊢
  generalize h1.push { cls := .type "range_iterator", data := .fields #[rawInt 0, rawInt n, rawInt 1] } = h2 at g2 k2 z2 ⊢
  intro h' t1 t2 t3 z3 k3
  have hsz2 : h2.objs.size = s.heap.objs.size + 2 := by rw [z2, z1]
  rw [z1] at g2
  dsimp only at t1 t2 t3 z3 k3 ⊢
  rw [hsz2] at t1 t2 t3 z3 ⊢
  rw [z1] at t1
  have ll : l < s.heap.objs.size := by obtain ⟨o, ho, _⟩ := hl; exact Heap.lt_size ho
  refine hQ (s.heap.objs.size + 2 + 2) (s.heap.objs.size + 2) (s.heap.objs.size + 2 + 1) s.heap.objs.size (s.heap.objs.size + 1) h' ⟨?_, ?_⟩ ⟨t3, t1, t2, ⟨_, k3 _ _ (k2 _ _ g1), rfl, rfl⟩, hl.at fun o e => k3 _ _ (k2 _ _ (k1 _ _ e)), k3 _ _ g2⟩ ?_ (fun b o e => k3 _ _ (k2 _ _ (k1 _ _ e))) (by rw [z3]; omega)
  · have key : ∀ B : Nat, [B + 2 + 2, B + 2, B + 2 + 1, B, B + 1].Nodup := fun B => by simp; omega
    exact key s.heap.objs.size
  · have key : ∀ (B k : Nat), k < B → k ∉ [B + 2 + 2, B + 2 + 1, B, B + 1] := fun B k hk => by simp; omega
    exact key s.heap.objs.size l ll
  · have key : ∀ (B : Nat), ∀ b ∈ [B + 2 + 2, B + 2, B + 2 + 1, B, B + 1], B ≤ b := fun B b hb => by
      simp only [List.mem_cons, List.not_mem_nil, or_false] at hb
      omega
    exact key s.heap.objs.size
end
open L2 MixD
/-- what dict(zip(keys, range(n))) holds -/
def zipR (ks : List NestedKey) : List (NestedKey × V) := ks.zipIdx.foldl (fun acc p => put acc p.1 (V.int p.2)) []
theorem zipR_snoc (ks : List NestedKey) (k : NestedKey) : zipR (ks ++ [k]) = put (zipR ks) k (.int ks.length) := by
  unfold zipR
  rw [List.zipIdx_append, List.foldl_append]
  simp
theorem zipR_len (ks : List NestedKey) : (zipR ks).length ≤ ks.length := by
  have : ∀ (l : List (NestedKey × Nat)) (acc : List (NestedKey × V)), (l.foldl (fun acc p => put acc p.1 (V.int p.2)) acc).length ≤ acc.length + l.length := by
    intro l
    induction l with
    | nil => intro acc; exact Nat.le_refl _
    | cons p l ih =>
      intro acc
      have h1 := ih (put acc p.1 (V.int p.2))
      have h2 := put_len acc p.1 (V.int p.2)
      rw [List.foldl_cons, List.length_cons]
      omega
  have h := this ks.zipIdx []
  rw [List.length_zipIdx, List.length_nil] at h
  unfold zipR
  omega
theorem zipR_nodup (ks : List NestedKey) : ((zipR ks).map (·.1)).Nodup := by
  have : ∀ (l : List (NestedKey × Nat)) (acc : List (NestedKey × V)), (acc.map (·.1)).Nodup → ((l.foldl (fun acc p => put acc p.1 (V.int p.2)) acc).map (·.1)).Nodup := by
    intro l
    induction l with
    | nil => intro acc h; exact h
    | cons p l ih => intro acc h; exact ih _ (put_nodup h _ _)
  exact this _ _ List.nodup_nil
inductive KeysV (H : Hp) : List V → List NestedKey → Prop
  | nil : KeysV H [] []
  | cons {x : V} {k : NestedKey} {xs : List V} {ks : List NestedKey} (h : NV H k x) (dp : k.depth ≤ 8) (t : KeysV H xs ks) : KeysV H (x :: xs) (k :: ks)
theorem KeysV.at {H : Hp} {xs : List V} {ks : List NestedKey} (h : KeysV H xs ks) : xs.length = ks.length ∧ ∀ {i : Nat} {x : V}, xs[i]? = some x → ∃ k, ks[i]? = some k ∧ NV H k x ∧ k.depth ≤ 8 := by
  induction h with
  | nil => exact ⟨rfl, fun h => by simp at h⟩
  | @cons x k xs ks h dp t ih =>
    refine ⟨by simp [ih.1], fun {i y} q => ?_⟩
    cases i with
    | zero =>
      injection q with q
      exact ⟨k, rfl, q ▸ h, dp⟩
    | succ i => exact ih.2 q
theorem entV_put {w : World} {H : Hp} {es es' : List DictEntry} {xs : List (NestedKey × V)} {ys : List (NestedKey × Value)} {k : NestedKey} {x y : V} {u v : Value} (e2 : EntV w H es xs) (hn : (xs.map (·.1)).Nodup) (h2 : PVs xs ys) (q : NV H k x) (r : RelV x u) (dp : k.depth ≤ 8) (rv : RelV y v) (pe : PutE w es es' ys k u v) : EntV w H es' (put xs k y) := by
  rcases pe with ⟨hno, rfl⟩ | ⟨i, z, hi, rfl⟩
  · rw [← h2.keys] at hno
    rw [put, if_neg hno]
    exact e2.snoc q r dp rv
  · obtain ⟨z', hz⟩ := h2.at hi
    rw [put, if_pos (List.mem_map.mpr ⟨_, List.mem_of_getElem? hz, rfl⟩)]
    exact e2.modify rv hn hz
section
variable {X : Cx} {pins : List (Addr × Obj)} {σ : L2.St} {H : Hp} {s : Shared} {n : Nat}
theorem dict_zip_in {l r : Addr} {xs : List V} {ks : List NestedKey} {Q : VK} (hcalm : X.calm = true) (hu : X.A.units + 12 < cLine) (I : Inv X pins σ H s) (hl : SqL X.K H l xs) (hr : H r = some (.rng 0 xs.length)) (hk : KeysV H xs ks) (hz : xs.length ≤ sizeLine)
    (hQ : ∀ d es, H d = none → XD X.w (upd H d (mixO d es)) d (zipR ks) → Q (.ref d) (upd H d (mixO d es))) :
    wpAny (model X.prog X.w) X.A (call (.type "zip") [.ref l, .ref r]) (fun v s1 => wpAny (model X.prog X.w) X.A (call (.type "dict") [v]) (EP X pins σ Q) X.xe s1) X.xe s := by
  obtain ⟨its, rv, pl, _⟩ := I.list hl
  obtain ⟨o, ho, hc, m, hd⟩ := pl.isList
  have hlen := rv.length
  obtain ⟨t, u, v, er⟩ := (show ∃ t u v, s.heap.get? r = some { cls := .type "range", data := .fields #[.int 0 t, .int xs.length u, .int 1 v] } from I.hok r _ hr)
  refine call_zip_LR (n := xs.length) (items := its.toArray) ⟨o, ho, hc, m, hd⟩ (by rw [List.size_toArray, hlen]) er ?_ ?_ fun z TI TO i1 i2 h1 ap ok hnew hk1 hge => ?_
  · rw [sizeLine_eq] at hz
    exact small_one (by decide) (by decide) (by omega) (by omega)
  · rw [rangeSize_nat]
    simp
  have P := pairArg_LR (prog := X.prog) (w := X.w) ap its.toArray (n := xs.length) (by rw [List.size_toArray, hlen])
  refine call_dict_arg P ok fun s₁ hs₁ hdf ok₁ => ?_
  subst hs₁
  have base : ∀ b o, s.heap.get? b = some o → b ≠ h1.objs.size ∧ b ∉ [z, TO, i1, i2] := fun b o e => by
    have hb := Heap.lt_size e
    refine ⟨Nat.ne_of_lt (Nat.lt_of_lt_of_le hb hge), fun q => ?_⟩
    have : b ∈ [z, TI, TO, i1, i2] := by simp at q ⊢; rcases q with q | q | q | q <;> simp [q]
    exact absurd (hnew b this) (Nat.not_le.mpr hb)
  refine updateFrom_arg (A := X.A.in1) (s := { s with heap := h1.push { cls := .type "dict", data := .dict #[] } }) (Tab := fun i h => (∀ b o, s.heap.get? b = some o → h.get? b = some o) ∧ ∃ es, RawD h h1.objs.size es ∧ EntV X.w H es (zipR (ks.take i))) P .none (I.ok.hd hcalm) ok₁ hdf ⟨fun b o e => Heap.get?_push_of_some _ (hk1 b o e), [], ⟨_, #[], 0, Heap.get?_push_size _ rfl, ⟨rfl, rfl, rfl⟩, rfl, rfl⟩, .nil⟩ ?_ ?_ ?_ ?_
  · rintro i h ⟨_, es, ⟨o, _, _, ho, _⟩, _⟩
    exact Heap.lt_size ho
  · rintro i h h' wr' hd' hw ⟨kp, es, ⟨o, la, ep, ho, x⟩, ev⟩ hk'
    refine ⟨fun b o e => hk' b o (fun q => ?_) (kp b o e), es, ⟨o, la, ep, hk' _ _ hd' ho, x⟩, ev⟩
    rcases hw b q with q | q
    · exact (base b o e).2 q
    · rw [show (h1.push { cls := .type "dict", data := .dict #[] }).get? b = some o from Heap.get?_push_of_some _ (hk1 b o e)] at q
      cases q
  · rintro i key v s' Q' E' hi ⟨hrel, tk, rfl⟩ ⟨kp, es, raw, ev⟩ _ hq
    have hx : ∃ x, xs[i]? = some x ∧ RelV x key := by
      rcases vals_at rv i with ⟨q, _⟩ | ⟨x, w', q1, q2, q3⟩
      · rw [List.getElem?_eq_none_iff] at q
        omega
      · rw [List.getElem?_toArray, q2] at hrel
        injection hrel with hrel
        exact ⟨x, q1, hrel ▸ q3⟩
    obtain ⟨x, hx, rx⟩ := hx
    obtain ⟨k, hki, nv, dp⟩ := hk.at.2 hx
    obtain ⟨ys, h1', h2'⟩ := ev.ents I.hok
    have stay : ∀ a o vs n, s.heap.get? a = some o → o.data = .seq vs n → s'.heap.get? a = some o := fun a o vs n e _ => kp a o e
    have hlen2 : ys.length ≤ sizeLine := by
      have q1 := zipR_len (ks.take i)
      have q2 : (ks.take i).length ≤ ks.length := by rw [List.length_take]; exact Nat.min_le_right ..
      have q3 := congrArg List.length h2'.keys
      rw [List.length_map, List.length_map] at q3
      have q4 := hk.at.1
      omega
    refine set_mix (by show X.A.units + 1 + 1 + 8 < cLine; omega) (NestedIs.at stay _ _ (nv.is I.hok rx)) dp (nv.noStr rx) raw (h1'.stay stay) (by rw [← h2'.keys]; exact zipR_nodup _) hlen2 fun h' es' raw' pe hs => ?_
    refine hq h' _ ⟨fun b o e => hs.extBut b o (base b o e).1 (kp b o e), es', raw', ?_⟩ hs
    have ht : ks.take (i + 1) = ks.take i ++ [k] := by rw [List.take_succ, hki]; rfl
    have hil : (ks.take i).length = i := by
      rw [List.length_take]
      have := (List.getElem?_eq_some_iff.mp hki).1
      omega
    rw [ht, zipR_snoc, hil]
    exact entV_put ev (zipR_nodup _) h2' nv rx dp ⟨tk, rfl⟩ pe
  · rintro h' tk ⟨kp, es, raw, ev⟩ hk'
    have e : ks.take xs.length = ks := List.take_of_length_le (Nat.le_of_eq hk.at.1.symm)
    rw [e] at ev
    have tups : ∀ a vs, H a = some (.tup vs) → upd H h1.objs.size (mixO h1.objs.size es) a = some (.tup vs) := fun a vs q => by
      rw [upd_ne (Nat.ne_of_lt (Nat.lt_of_lt_of_le (I.hok a _ q).lt hge))]
      exact q
    refine ⟨rfl, .ref h1.objs.size, _, I.laid (a := h1.objs.size) (o := mixO h1.objs.size es) (t' := tk) kp hge (mixO_ok raw), rfl, hQ _ _ (I.hok.fresh hge) ⟨beq_eq_false_iff_ne.mpr (Ne.symm (Nat.ne_of_lt (Nat.lt_of_lt_of_le I.big hge))), ?_, zipR_nodup ks, es, upd_same, ev.up tups⟩⟩
    have q := zipR_len ks
    rw [← hk.at.1] at q
    omega
end
section
variable {X : Cx} {p p2 q q2 : Pos} {e e2 : Expr} {ta : TA}
def tDictZip (w : World) (K : PySem.W.Frag) (ta : TA) : TE := fun σ H Q => ta σ H fun vs H1 => ∃ l r xs ks, vs = [V.ref l, V.ref r] ∧ SqL K H1 l xs ∧ H1 r = some (.rng 0 xs.length) ∧ KeysV H1 xs ks ∧ xs.length ≤ sizeLine ∧
  ∀ d es, H1 d = none → XD w (upd H1 d (mixO d es)) d (zipR ks) → Q (.ref d) (upd H1 d (mixO d es))
/-- dict(zip(e, e2)), e a list of keys, e2 the range from 0 to their number -/
theorem pe_dictZip (hc : X.calm = true) (hu : X.A.units + 12 < cLine) (hg : Gl X "dict") (hm : X.mg "dict" = none) (hgz : Gl X "zip") (hmz : X.mg "zip" = none) (ha : PA X [e, e2] ta)
    (he : starEach [e, e2] X.env = (false, eval e X.env) :: starEach [e2] X.env := by rfl) (hpl : (backTo q2 (starEach [e2] X.env)).any (·.1) = false := by rfl)
    (hs : starEach [.Call (.Name "zip" p2) [e, e2] [] q2] X.env = (false, eval (.Call (.Name "zip" p2) [e, e2] [] q2) X.env) :: starEach [] X.env := by rfl) :
    PE X (.Call (.Name "dict" p) [.Call (.Name "zip" p2) [e, e2] [] q2] [] q) (tDictZip X.w X.K ta) := by
  refine ⟨fun pins s σ H Q I h => ?_⟩
  refine wpAny_Call_Name_kw (ld_blt I hg hm (u := .type "dict") (by rfl) ?_)
  refine PyProof.Rows.callWith_type1 ?_ hs rfl
  rw [hs]
  show wpAny _ _ (spliced ((false, eval (.Call (.Name "zip" p2) [e, e2] [] q2) X.env) :: backTo q (starEach [] X.env))) _ _ s
  refine Calls.spliced_cons (wpAny_mono (Q := fun u s1 => wpAny (model X.prog X.w) X.A (call (.type "dict") [u]) (EP X pins σ Q) X.xe s1) (wpAny_Call_Name_kw (ld_blt I hgz hmz (u := .type "zip") (by rfl) ?_)) (fun u s1 hu => Calls.spliced_nil hu) fun _ _ z => z)
  refine PyProof.Rows.callWith_type1 (thn (ha.run q2 pins s σ H _ I h) fun us s1 ⟨vs, H1, I1, r, l, ra, xs, ks, ev, z1, z2, z3, z4, z5⟩ => ?_) he hpl
  subst ev
  cases r with
  | @cons _ u _ _ r1 r => cases r with
    | @cons _ u2 _ _ r2 r => cases r with
      | nil =>
        obtain rfl : u = Value.ref l := r1
        obtain rfl : u2 = Value.ref ra := r2
        exact dict_zip_in hc hu I1 z1 z2 z3 z4 z5
end
end ZpR
set_option maxHeartbeats 4000000
namespace MixD
open PySem PySem.Spec PyProof.Rows L2
section
variable {X : Cx}
theorem call_lenX : CallR X (.builtin "len") (fun vs H Q => ∃ d xs, vs = [V.ref d] ∧ XD X.w H d xs ∧ Q (.int xs.length) H) := by
  intro pins s σ H vs us Q I r h
  obtain ⟨d, xs, rfl, m, q⟩ := h
  obtain ⟨u, rfl, ru⟩ := vals1 r
  obtain rfl : u = Value.ref d := ru
  obtain ⟨hsm, hl, hn, es, e1, e2⟩ := id m
  obtain ⟨⟨o, l, ep, ho, hc, hd, el⟩, _, _⟩ := (show ObjOk X.prog X.w H s.heap d (mixO d es) from I.hok d _ e1)
  obtain ⟨ys, h1, h2⟩ := e2.ents I.hok
  have hs : l.size = xs.length := by
    rw [← Array.length_toList, el, h1.length]
    have := congrArg List.length h2.keys
    rw [List.length_map, List.length_map] at this
    exact this.symm
  have hT : s.TypeIs (.ref d) "dict" := ⟨o, ho, hc.1⟩
  refine PyProof.Rows.call_len_slot (n := xs.length) hT F.slot_dict_len (fun Q' hq => call_len_raw hsm ⟨o, ho, hc, hd⟩ (by rw [hs]; exact hq)) (by omega) (by rw [sizeLine_eq] at hl; omega) ?_
  exact ⟨.int xs.length, H, I.tok _, ⟨_, rfl⟩, q⟩
theorem mt_setdefX (hu : X.A.units + 10 < cLine) : MtR X "dict.setdefault" (fun x vs H Q => ∃ d xs k kx y, x = V.ref d ∧ vs = [kx, y] ∧ XD X.w H d xs ∧ NV H k kx ∧ k.depth ≤ 8 ∧ xs.length < sizeLine ∧
    ((∃ v, val xs k = some v ∧ Q v H) ∨ (val xs k = none ∧ ∀ es, XD X.w (upd H d (mixO d es)) d (put xs k y) → Q y (upd H d (mixO d es))))) := by
  intro pins s σ H x vs v us Q I rx r h
  obtain ⟨d, xs, k, kx, y, rfl, rfl, m, nv, dp, hl, h⟩ := h
  obtain rfl : v = Value.ref d := rx
  cases r with
  | @cons _ u _ _ r1 r => cases r with
    | @cons _ w2 _ _ r2 r => cases r with
      | nil =>
        obtain ⟨hsm, _, hn, es, e1, e2⟩ := id m
        obtain ⟨raw, _, _⟩ := (show ObjOk X.prog X.w H s.heap d (mixO d es) from I.hok d _ e1)
        obtain ⟨o, l, ep, ho, hc, hd, el⟩ := id raw
        obtain ⟨ys, h1, h2⟩ := e2.ents I.hok
        have hlen : ys.length = xs.length := by
          have := congrArg List.length h2.keys
          rw [List.length_map, List.length_map] at this
          exact this.symm
        have hes : l.size = xs.length := by rw [← Array.length_toList, el, h1.length, hlen]
        have hT : s.TypeIs (.ref d) "dict" := ⟨o, ho, hc.1⟩
        have hk := nv.is I.hok r1
        refine wpAny_call_entry F.slot_dict_setdefault hT F.entry_dict_setdefault ?_ (F.args_dict_setdefault_3 _ _ _)
        unfold Builtin.«dict.setdefault»
        refine wpAny_bind ?_
        unfold Builtin.Dict.keyAndDefault
        refine wpAny_bind (wpAny_notOrdered_dict hT ?_)
        show wpAny _ _ (pure (d, u, some w2)) _ _ s
        refine wpAny_pure ?_
        show wpAny _ _ (if (d == sysModules) = true then _ else (dictSetDefault d u w2 >>= _)) _ _ s
        rw [if_neg (by rw [hsm]; exact Bool.false_ne_true)]
        refine wpAny_bind ?_
        unfold dictSetDefault
        refine wpAny_holding (wpAny_bind (pyHash_key k u X.A.in1 s _ hk (by show X.A.units + 1 + k.depth < cLine; omega) (wpAny_bind (find_mix (s := { s with toks := s.toks + k.draws }) (by show X.A.units + 1 + 8 < cLine; omega) hk dp (nv.noStr r1) ho hd (el ▸ h1) (by rw [← h2.keys]; exact hn) (fun hno => ?_) fun i z hi => ?_))))
        · have hno' : k ∉ xs.map (·.1) := by rw [h2.keys]; exact hno
          rcases h with ⟨v', e, _⟩ | ⟨_, h⟩
          · rw [val_none hno'] at e
            cases e
          · refine wpAny_bind (wpAny_rule (wpAny_bind (wpAny_updateDictKeys (hz := by omega) (f := fun q => q.push ⟨k.hash X.w, u, w2⟩) (s := { s with toks := s.toks + k.draws }) ho hd (wpAny_pure ?_))))
            obtain ⟨a, b⟩ := xd_after (t' := s.toks + k.draws) (h' := s.heap.update d (Obj.mapDictKeys fun q => q.push ⟨k.hash X.w, u, w2⟩)) I m e1 e2 h2 nv r1 dp r2 hl (es' := es ++ [⟨k.hash X.w, u, w2⟩]) ⟨_, _, ep + 1, Heap.get?_update_self _ ho (Obj.isFreed_of_dict (Obj.data_mapDictKeys hd _)), hc.mapDictKeys _, Obj.data_mapDictKeys hd _, by rw [Array.toList_push, el]⟩ (.inl ⟨hno, rfl⟩) (Heap.SameBut.update ..)
            exact wpAny_pure ⟨w2, rfl, y, _, b, r2, h _ a⟩
        · refine wpAny_bind (wpAny_dictEntries (s := { s with toks := s.toks + k.draws }) ho hd ?_)
          obtain ⟨en, q1, _, q2⟩ := h1.of hi
          rw [← el, Array.getElem?_toList] at q1
          rw [q1]
          have hv := h2.val k
          rw [val_at (by rw [← h2.keys]; exact hn) hi] at hv
          rcases h with ⟨v', e, hq⟩ | ⟨e, _⟩
          · rw [e] at hv
            refine wpAny_bind (wpAny_rule (wpAny_pure ?_))
            refine wpAny_pure ⟨en.val, rfl, v', H, I.tok _, ?_, hq⟩
            rw [q2]
            exact hv
          · rw [e] at hv
            exact absurd hv (by simp [RelO])
end
section
variable {X : Cx} {w : World} {o i value k v : Expr} {pos pos' : Pos} {td ty tv tk : TE}
theorem pe_xgetW (hw : X.w = w) (hu : X.A.units + 9 < cLine) (ho : PE X o td) (hi : PE X i ty) (hs : NoSl i) : PE X (.Subscript o i pos) (tXGet w td ty) := by
  subst hw
  exact pe_xget hu ho hi hs
theorem pc_xnotinW (hw : X.w = w) (hu : X.A.units + 9 < cLine) (hi : PE X i ty) (ho : PE X o td) : PC X .NotIn i o (tXNotIn w ty td) := by
  subst hw
  exact pc_xnotin hu hi ho
theorem pe_xdispW (hw : X.w = w) (hu : X.A.units + 9 < cLine) (hk : PE X k tk) (hv : PE X v tv) : PE X (.Dict [some k] [v] pos) (tXDisp w tk tv) := by
  subst hw
  exact pe_xdisp hu hk hv
end
end MixD
set_option maxHeartbeats 4000000
namespace Z
open PySem PySem.Spec PyProof.Rows L2
abbrev SF := Heap → Hp → Prop
def StaysF (C : SF) : Prop := ∀ fs H H' h h', Un fs [] H H' h h' → C h H → C h' H'
theorem cells_stay {cl : List (Str × Addr)} {fr : List Str} {ws : List (Option V)} : StaysF (fun h H => NdefX.CellsAt cl fr ws h H) := fun fs H H' h h' u C => by
  have kp : ∀ y c, cl.lookup y = some c → ∀ v, h.IsCell c v → h'.IsCell c v := fun y c e v ⟨o, ho, hd⟩ => by
    obtain ⟨sl, q⟩ := u.any ho (C.all y c e).1 (by simp)
    exact ⟨_, q, hd⟩
  refine ⟨C.len, fun y c e => ?_, C.inj, fun i y e => ?_⟩
  · have ⟨n, v, z⟩ := C.all y c e
    have ⟨o, ho, _⟩ := z
    exact ⟨u.free c o ho n (by simp), v, kp y c e v z⟩
  · have ⟨c, hc, hv⟩ := C.has i y e
    exact ⟨c, hc, fun v ev => let ⟨u', r, z⟩ := hv v ev; ⟨u', r, kp y c hc _ z⟩⟩
/-- .. of a function that captures nothing -/
theorem cells_nil {h : Heap} {H : Hp} : NdefX.CellsAt [] [] [] h H := ⟨rfl, fun _ _ e => (nomatch e), fun _ _ _ e => (nomatch e), fun i y e => (by simp at e)⟩
structure FnOkC (P : Program) (w : World) (K : PySem.W.Frag) (mg : Str → Option Value) (base : Heap) (CX : CXT) (k : Nat) (f : Addr) (fd : FuncData) (ps : List Str) (C : SF) (sp : Sp) : Prop where
  len : ∀ vs H Q E, sp vs H Q E → vs.length = ps.length
  go : ∀ (A : Around) (outer : List Env) (s : Shared) (H : Hp) (args : Args) (us : List Value) (vs : List V) (Q : VK) (E : XK), Room k A → Env0 P w K mg base A outer s H → C s.heap H → BindsTo s fd args (ps.zip us) → Vals vs us → sp vs H Q E →
    codeAny (model P w) A (.call (.ref f) args) (L2.CR CX outer P w H s Q E) s
section
variable {P : Program} {w : World} {K : PySem.W.Frag} {mg : Str → Option Value} {base : Heap} {CX : CXT}
theorem okC {x qual : Str} {params : Arguments} {body : List Stmt} {scope : Scope} {dvs : List V} {kws : List (Str × V)} {f : Addr} {fd : FuncData} {N ps : List Str} {k : Nat} {C : SF} {sp : Sp} (F : FunD K x qual params body scope dvs kws f fd) (S : FnScope N ps scope) (len : ∀ vs H Q E, sp vs H Q E → vs.length = ps.length)
    (hbody : ∀ (cdv : Value) (A : Around) (outer : List Env) (s : Shared) (H : Hp) (vs : List V) (Q : VK) (E : XK), Room k (A.deeper (envOfC qual scope s.heap.objs.size f cdv)) → C s.heap H → sp vs H Q E →
      ∃ t, PSs (cxOf CX P w K mg base N qual scope f cdv A outer s H E) body t ∧ t { nx := fun _ H' => Q .non H', rt := Q } (start N vs) H) : FnOkC P w K mg base CX (k + 1) f fd ps C sp := by
  have ⟨oc, od, dV, kV, doc, pm, an, cdv, ct, osl, e, lk, hcd, _, _⟩ := F.ex
  subst e
  exact ⟨len, fun A outer s H args us vs Q E hr e0 hC hb r hsp => LamX.run_ofS lk hcd S hr e0 hb r (len _ _ _ _ hsp) fun hr' => hbody cdv A outer s H vs Q E hr' hC hsp⟩
end
def tCallC {ι : Type} (sp : ι → Sp) (Good : ι → L2.St → Prop) (E : XK) (t : TA) : TE := fun σ H Q => t σ H fun vs H1 => ∃ z, Good z σ ∧ sp z vs H1 Q E
section
variable {X : Cx} {CX : CXT} {k : Nat} {f : Addr} {fd : FuncData} {ps : List Str} {E : XK} {x : Str} {p pos : Pos} {e : Expr} {es : List Expr} {t : TA}
theorem pe_callC {ι : Type} {C : ι → SF} {sp : ι → Sp} {Good : ι → L2.St → Prop} (F : ∀ z, FnOkC X.prog X.w X.K X.mg X.base CX k f fd ps (C z) (sp z)) (hC : ∀ pins σ H s z, Inv X pins σ H s → Good z σ → C z s.heap H) (hr : Room k X.A) (hg : Gl X x) (hm : X.mg x = some (.ref f)) (hk : PySem.W.keepIn X.K (.ref f) = true)
    (hb : Binds X.K fd ps []) (hx : Passes CX X E) (ha : PA X (e :: es) t) (hdb : (x == ("__debug__" : Str)) = false := by decide) (he : starEach (e :: es) X.env = (false, eval e X.env) :: starEach es X.env := by rfl) (hpl : (backTo pos (starEach es X.env)).any (·.1) = false := by rfl) :
    PE X (.Call (.Name x p) (e :: es) [] pos) (tCallC sp Good E t) := by
  refine ⟨fun pins s σ H Q I h => wpAny_Call_Name_kw (ld_glob I hg hm ?_ hdb)⟩
  refine PySem.W.callWith_K (h₀ := X.base) I.ok.mod.kin hk (thn (ha.run pos pins s σ H _ I h) fun us s1 ⟨vs, H1, I1, r, z, g, q⟩ => ⟨I1.kIn, ?_⟩) he hpl
  have hl : us.length = ps.length := by rw [← r.length, (F z).len _ _ _ _ q]
  have hb1 := hb s1 us I1.kIn (by rw [List.append_nil]; exact hl)
  rw [List.append_nil] at hb1
  refine wpAny_call (codeAny_mono ((F z).go X.A X.stack s1 H1 ⟨us, []⟩ us vs Q E hr I1.env0 (hC _ _ _ _ _ I1 g) hb1 r q) fun rr s' hq => ?_)
  cases rr with
  | error er => exact hx pins σ H1 s1 er s' I1 hq
  | ok fl => cases fl with
    | ret u => exact I1.after hq
    | next => exact hq.elim
    | brk => exact hq.elim
    | cont => exact hq.elim
end
structure Clo where
  f : Addr
  req : Hp → Prop
  C : SF
structure CloOk (P : Program) (w : World) (K : PySem.W.Frag) (mg : Str → Option Value) (base : Heap) (CX : CXT) (k : Nat) (z : Clo) (sp : Sp) : Prop where
  st : StaysF z.C
  up : ∀ H H', Same H H' → z.req H → z.req H'
  fn : ∀ {H h}, HOk P w H h → z.req H → PySem.W.FnAt z.f h
  go : ∀ (A : Around) (outer : List Env) (s : Shared) (H : Hp) (us : List Value) (vs : List V) (Q : VK) (E : XK), Room k A → Env0 P w K mg base A outer s H → z.req H → z.C s.heap H → Vals vs us → sp vs H Q E →
    codeAny (model P w) A (.call (.ref z.f) ⟨us, []⟩) (L2.CR CX outer P w H s Q E) s
theorem CloOk.mono {P : Program} {w : World} {K : PySem.W.Frag} {mg : Str → Option Value} {base : Heap} {CX : CXT} {j k : Nat} {z : Clo} {sp : Sp} (c : CloOk P w K mg base CX j z sp) (h : j ≤ k) : CloOk P w K mg base CX k z sp :=
  ⟨c.st, c.up, c.fn, fun A outer s H us vs Q E hr => c.go A outer s H us vs Q E (hr.mono h)⟩
theorem CloOk.imp {P : Program} {w : World} {K : PySem.W.Frag} {mg : Str → Option Value} {base : Heap} {CX : CXT} {k : Nat} {z : Clo} {sp sp' : Sp} (c : CloOk P w K mg base CX k z sp) (h : ∀ vs H Q E, sp' vs H Q E → sp vs H Q E) : CloOk P w K mg base CX k z sp' :=
  ⟨c.st, c.up, c.fn, fun A outer s H us vs Q E hr e0 q cc r hs => c.go A outer s H us vs Q E hr e0 q cc r (h _ _ _ _ hs)⟩
def tCallZ (i : Nat) (z : Clo) (sp : Sp) (E : XK) (t : TA) : TE := fun σ H Q => σ[i]? = some (some (.ref z.f)) ∧ z.req H ∧ t σ H fun vs H1 => z.req H1 ∧ sp vs H1 Q E
section
variable {X : Cx} {CX : CXT} {z : Clo} {i j k : Nat} {x : Str} {sp : Sp} {E : XK} {t : TA} {e : Expr} {es : List Expr} {p pos : Pos}
/-- z(..), z handed to the running def -/
theorem pe_callZ (Fn : CloOk X.prog X.w X.K X.mg X.base CX k z sp) (hC : z.C X.s_0.heap X.H_0) (hex : X.ex = []) (hr : Room j X.A) (hk : k ≤ j) (hx : Passes CX X E) (hN : X.N[i]? = some x) (hv : Vis X.env.scope x) (ha : PA X (e :: es) t)
    (hd : (x == ("__debug__" : Str)) = false := by decide) (hcd : (x == ("__classdict__" : Str)) = false := by decide)
    (he : starEach (e :: es) X.env = (false, eval e X.env) :: starEach es X.env := by rfl) (hpl : (backTo pos (starEach es X.env)).any (·.1) = false := by rfl) :
    PE X (.Call (.Name x p) (e :: es) [] pos) (tCallZ i z sp E t) := by
  refine ⟨fun pins s σ H Q I ⟨hs, hf, ht⟩ => ?_⟩
  refine wpAny_Call_Name_kw (thn ((pe_var (pos := p) hN hv hd hcd).run pins s σ H (fun v H1 => v = .ref z.f ∧ H1 = H) I ⟨.ref z.f, hs, rfl, rfl⟩) fun u s1 ⟨v, H1, I1, r1, ev, eH⟩ => ?_)
  subst ev eH
  obtain rfl : u = Value.ref z.f := r1
  refine PySem.W.callWith_F (first := []) (Fn.fn I1.hok hf) (thn (ha.run pos pins s1 σ _ _ I1 ht) fun us s2 ⟨vs, H2, I2, r, h1, q⟩ => ⟨Fn.fn I2.hok h1, ?_⟩) he hpl
  have un := I2.base
  rw [hex] at un
  refine wpAny_call (codeAny_mono (Fn.go X.A X.stack s2 H2 us vs Q E (hr.mono hk) I2.env0 h1 (Fn.st _ _ _ _ _ un hC) r q) fun rr s' hq => ?_)
  cases rr with
  | error er => exact hx pins σ H2 s2 er s' I2 hq
  | ok fl => cases fl with
    | ret u => exact I2.after hq
    | next => exact hq.elim
    | brk => exact hq.elim
    | cont => exact hq.elim
end
section
variable {X : Cx} {CX : CXT} {z : Clo} {i j k : Nat} {x : Str} {sp : Sp} {E : XK} {t : TA} {e : Expr} {es : List Expr} {p pos : Pos}
/-- .. that asks nothing of the state: anywhere -/
theorem pe_callZ0 (Fn : CloOk X.prog X.w X.K X.mg X.base CX k z sp) (hC : ∀ h H, z.C h H) (hr : Room j X.A) (hk : k ≤ j) (hx : Passes CX X E) (hN : X.N[i]? = some x) (hv : Vis X.env.scope x) (ha : PA X (e :: es) t)
    (hd : (x == ("__debug__" : Str)) = false := by decide) (hcd : (x == ("__classdict__" : Str)) = false := by decide)
    (he : starEach (e :: es) X.env = (false, eval e X.env) :: starEach es X.env := by rfl) (hpl : (backTo pos (starEach es X.env)).any (·.1) = false := by rfl) :
    PE X (.Call (.Name x p) (e :: es) [] pos) (tCallZ i z sp E t) := by
  refine ⟨fun pins s σ H Q I ⟨hs, hf, ht⟩ => ?_⟩
  refine wpAny_Call_Name_kw (thn ((pe_var (pos := p) hN hv hd hcd).run pins s σ H (fun v H1 => v = .ref z.f ∧ H1 = H) I ⟨.ref z.f, hs, rfl, rfl⟩) fun u s1 ⟨v, H1, I1, r1, ev, eH⟩ => ?_)
  subst ev eH
  obtain rfl : u = Value.ref z.f := r1
  refine PySem.W.callWith_F (first := []) (Fn.fn I1.hok hf) (thn (ha.run pos pins s1 σ _ _ I1 ht) fun us s2 ⟨vs, H2, I2, r, h1, q⟩ => ⟨Fn.fn I2.hok h1, ?_⟩) he hpl
  refine wpAny_call (codeAny_mono (Fn.go X.A X.stack s2 H2 us vs Q E (hr.mono hk) I2.env0 h1 (hC _ _) r q) fun rr s' hq => ?_)
  cases rr with
  | error er => exact hx pins σ H2 s2 er s' I2 hq
  | ok fl => cases fl with
    | ret u => exact I2.after hq
    | next => exact hq.elim
    | brk => exact hq.elim
    | cont => exact hq.elim
end
def cloN (f : Addr) (F : NdefX.NF) (fr : List Str) (ws : List (Option V)) : Clo := ⟨f, fun H => H f = some (NdefX.FnO f F) ∧ H F.c = some (LamX.CodeO F.c F.qual), fun h H => NdefX.CellsAt F.cl fr ws h H⟩
section
variable {P : Program} {w : World} {K : PySem.W.Frag} {mg : Str → Option Value} {base : Heap} {CX : CXT} {k : Nat} {f : Addr} {F : NdefX.NF} {ps fr : List Str}
theorem clo_n {sp : List (Option V) → Sp} {ws : List (Option V)} (Fn : NdefX.NOk P w K mg base CX k f F ps fr sp) : CloOk P w K mg base CX k (cloN f F fr ws) (sp ws) where
  st := cells_stay
  up := fun H H' s q => ⟨s _ _ q.1, s _ _ q.2⟩
  fn := fun {H h} hok q => let ⟨od, sl, doc, pm, ctv, ho⟩ := NdefX.fnO_at hok q.1; ⟨_, od, _, sl, ho⟩
  go := fun A outer s H us vs Q E hr e0 q C r hs => Fn.run A outer s H us vs ws Q E hr e0 q.1 q.2 C r hs
end
section
variable {P : Program} {w : World} {K : PySem.W.Frag} {mg : Str → Option Value} {base : Heap} {CX : CXT} {k : Nat} {f c : Addr} {name qual : Str} {params : Arguments} {body : List Stmt} {scope : Scope} {N ps : List Str} {sp : Sp}
theorem clo_c (S : FnScope N ps scope) (hb : ∀ (doc pm ctv : Value) (us : List Value), us.length = ps.length → bindArgs ((⟨name, qual, params, body, scope, [], c⟩ : NdefX.NF).fd doc pm ctv) ⟨us, []⟩ = pure (ps.zip us)) (len : ∀ vs H Q E, sp vs H Q E → vs.length = ps.length)
    (hbody : ∀ (A : Around) (outer : List Env) (s : Shared) (H : Hp) (vs : List V) (Q : VK) (E : XK), Room k (A.deeper (envOfC qual scope s.heap.objs.size f (.ref c))) → sp vs H Q E →
      ∃ t, PSs (cxOf CX P w K mg base N qual scope f (.ref c) A outer s H E) body t ∧ t { nx := fun _ H' => Q .non H', rt := Q } (start N vs) H) :
    CloOk P w K mg base CX (k + 1) (cloN f ⟨name, qual, params, body, scope, [], c⟩ [] []) sp where
  st := cells_stay
  up := fun H H' s q => ⟨s _ _ q.1, s _ _ q.2⟩
  fn := fun {H h} hok q => let ⟨od, sl, doc, pm, ctv, ho⟩ := NdefX.fnO_at hok q.1; ⟨_, od, _, sl, ho⟩
  go := fun A outer s H us vs Q E hr e0 q _ r hsp => by
    have ⟨hf, hc⟩ := q
    have hl := len _ _ _ _ hsp
    have lim : s.heap.NoLimit := e0.mod.nolimit.keeps fun b o e => (e0.bs b o e).1
    have hkind : ∀ y ∈ ps.zip us, scope.names.lookup y.1 = some .local ∨ (scope.names.lookup y.1 = some .cell ∧ ((cellsFrom (s.heap.objs.size + 1) scope.names []).lookup y.1).isSome = true) := fun ⟨n, v⟩ hy =>
      (S.par n (List.of_mem_zip hy).1).imp id fun q => ⟨q, PySem.W.cellsFrom_some _ _ _ (.inl q)⟩
    have ⟨od, sl, doc, pm, ctv, ho⟩ := NdefX.fnO_at e0.hok hf
    refine codeAny_call_function hr.depth ho rfl S.co S.gen rfl (NdefX.codeO_at e0.hok hc) ?_
    rw [hb doc pm ctv us (by rw [← r.length]; exact hl)]
    refine wpAny_pure (wpAny_newFunctionEnv_cells S.kind hkind fun env he s1 x => ?_)
    subst he
    refine ⟨lim.keeps x.toInCall.keep, codeAny_func ?_⟩
    have ⟨t, ht, hq⟩ := hbody A outer s H vs Q E (hr.deeper _) hsp
    have I : Inv (cxOf CX P w K mg base N qual scope f (.ref c) A outer s H E) [] (start N vs) H s1 := inv_start S hr.hd e0 hl r x
    refine wpAny_mono (ht.run [] s1 (start N vs) H _ I hq) (fun fl s' hs => ?_) fun e s' hs => hs
    cases fl with
    | ret u =>
      have ⟨v, σ', H', J, rv, q⟩ := hs
      exact ⟨v, H', J.os, J.bare, J.base, J.hok, rv, q⟩
    | next =>
      have ⟨σ', H', J, q⟩ := hs
      exact ⟨.non, H', J.os, J.bare, J.base, J.hok, rfl, q⟩
    | brk => have ⟨_, _, _, q⟩ := hs; exact q.elim
    | cont => have ⟨_, _, _, q⟩ := hs; exact q.elim
end
def LamO (f : Addr) (F : NdefX.NF) (b : Expr) : HO := .ext fun h => ∃ pm ctv, h.get? f = some (PySem.W.kla_obj F.name F.qual F.params b F.scope F.cl pm F.c ctv)
def cloL (f : Addr) (F : NdefX.NF) (b : Expr) (fr : List Str) (ws : List (Option V)) : Clo := ⟨f, fun H => H f = some (LamO f F b) ∧ H F.c = some (LamX.CodeO F.c F.qual), fun h H => NdefX.CellsAt F.cl fr ws h H⟩
section
variable {P : Program} {w : World} {K : PySem.W.Frag} {mg : Str → Option Value} {base : Heap} {CX : CXT} {k : Nat} {f : Addr} {F : NdefX.NF} {N ps fr : List Str} {b : Expr}
theorem lamO_at {H : Hp} {h : Heap} (hok : HOk P w H h) (e : H f = some (LamO f F b)) : ∃ pm ctv, h.get? f = some (PySem.W.kla_obj F.name F.qual F.params b F.scope F.cl pm F.c ctv) := (hok f _ e).1
theorem clo_l {sp : List (Option V) → Sp} {ws : List (Option V)} (S : NdefX.NScope N ps fr F.scope) (hb : ∀ (pm ctv : Value) (us : List Value), us.length = ps.length → bindArgs (PySem.W.kla_fn F.name F.qual F.params b F.scope F.cl pm (.ref F.c) ctv) ⟨us, []⟩ = pure (ps.zip us)) (len : ∀ ws vs H Q E, sp ws vs H Q E → vs.length = ps.length)
    (hbody : ∀ (A : Around) (outer : List Env) (s : Shared) (H : Hp) (vs : List V) (Q : VK) (E : XK), Room k (A.deeper (NdefX.envF F f s.heap.objs.size)) → sp ws vs H Q E → ∃ t, PE (NdefX.ncx CX P w K mg base N F f A outer s H E) b t ∧ t (NdefX.startF N vs ws) H Q) :
    CloOk P w K mg base CX (k + 1) (cloL f F b fr ws) (sp ws) where
  st := cells_stay
  up := fun H H' s q => ⟨s _ _ q.1, s _ _ q.2⟩
  fn := fun {H h} hok q => let ⟨pm, ctv, ho⟩ := lamO_at hok q.1; ⟨_, _, _, _, ho⟩
  go := fun A outer s H us vs Q E hr e0 q C r hsp => by
    have ⟨hf, hc⟩ := q
    have hl := len _ _ _ _ _ hsp
    have lim : s.heap.NoLimit := e0.mod.nolimit.keeps fun b o e => (e0.bs b o e).1
    have ⟨pm, ctv, ho⟩ := lamO_at e0.hok hf
    refine PySem.W.kla_callFunE hr.depth ho rfl S.co S.gen rfl (NdefX.codeO_at e0.hok hc) ?_
    rw [hb pm ctv us (by rw [← r.length]; exact hl)]
    refine wpAny_pure (wpAny_newFunctionEnv S.nocell (fun ⟨n, _⟩ hy => S.par n (List.of_mem_zip hy).1) (fun h₁ hns hsb => ⟨lim.fresh _ hsb, ?_⟩) S.kind)
    have kp : ∀ b o, s.heap.get? b = some o → h₁.get? b = some o := fun b o e => hsb.extBut b o (Nat.ne_of_lt (Heap.lt_size e)) (Heap.get?_push_of_some _ e)
    have ⟨t, ht, hq⟩ := hbody A outer s H vs Q E (hr.deeper _) hsp
    have I : Inv (NdefX.ncx CX P w K mg base N F f A outer s H E) [] (NdefX.startF N vs ws) H { s with heap := h₁, toks := s.toks + (ps.zip us).length } := NdefX.inv_startN S hr.hd e0 hl r C hns kp
    refine PySem.W.kla_codeExpr (wpAny_mono (ht.run [] _ (NdefX.startF N vs ws) H Q I hq) (fun v s' hs => ?_) fun e s' hs => hs)
    have ⟨v', H', J, rv, q'⟩ := hs
    exact ⟨v', H', J.os, J.bare, J.base, J.hok, rv, q'⟩
end
/-- a lambda as a value -/
def tLamE (T : List NdefX.NTab) (b : Expr) (mk : Addr → NdefX.NF) : TE := fun σ H Q => NdefX.TabsN T H ∧ ∀ (f c' : Addr) (H1 : Hp), LamX.ExtN H H1 → NdefX.TabsN T H1 → H f = none → H1 f = some (LamO f (mk c') b) → H1 c' = some (LamX.CodeO c' (mk c').qual) → Q (.ref f) H1
section
variable {X : Cx} {pins : List (Addr × Obj)} {σ : L2.St} {H : Hp} {s : Shared}
theorem inv_lam {F : NdefX.NF} {b : Expr} {o : Obj} {t' : Nat} {pm ctv : Value} (I : Inv X pins σ H s) (ho : o = PySem.W.kla_obj F.name F.qual F.params b F.scope F.cl pm F.c ctv) :
    Inv X pins σ (upd H s.heap.objs.size (LamO s.heap.objs.size F b)) { s with heap := s.heap.push o, toks := t' } := by
  subst ho
  refine I.laid (a := s.heap.objs.size) (fun b u e => Heap.get?_push_of_some _ e) (Nat.le_refl _) ?_
  have e : (s.heap.push (PySem.W.kla_obj F.name F.qual F.params b F.scope F.cl pm F.c ctv)).get? s.heap.objs.size = some (PySem.W.kla_obj F.name F.qual F.params b F.scope F.cl pm F.c ctv) := Heap.get?_push_size _ rfl
  exact ⟨⟨pm, ctv, e⟩, ⟨_, e⟩, fun h1 h2 ⟨p, t, z⟩ st => ⟨p, t, st _ z⟩⟩
theorem pe_lamE {T : List NdefX.NTab} {nm : Nat → Nat → Str} {c P : Addr} {params : Arguments} {body : Expr} {scope : Scope} {pos : Pos} (TB : LamX.TabB X.base X.mg c P) (hcode : X.env.code = .ref c) (hm : (P, nm) ∈ T) (hn : nm pos.line pos.col = X.env.qual ++ "<lambda>") (hu : ∀ p ∈ T, p.1 = P → p.2 = nm)
    (hdef : defaultsOf params X.env = ([], [])) (hfr : ∀ y ∈ scope.names, y.2 = .free → X.env.scope.names.lookup y.1 = some .cell ∨ X.env.scope.names.lookup y.1 = some .free) :
    PE X (.Lambda params body scope pos) (tLamE T body fun c' => ⟨"<lambda>", X.env.qual ++ "<lambda>", params, [], scope, cloFrom X.env.cells scope.names [], c'⟩) := by
  refine ⟨fun pins s σ H Q I ⟨hT, h⟩ => PySem.W.kla_eval hdef ?_⟩
  have hfree : ∀ y ∈ scope.names, y.2 = .free → ∃ c, X.env.cells.lookup y.1 = some c := fun y hy e => (hfr y hy e).elim (fun z => I.ok.has _ (.inl z)) fun z => I.ok.has _ (.inr z)
  have ⟨ps, hP, ht, ha⟩ := (show NdefX.TabN H P nm from hT _ hm)
  have bP : s.heap.BuiltinsAt X.mg P := TB.bm.keeps I.bk
  have hP' : s.heap.get? P = some { cls := .none, data := .fields ps } := I.hok P _ hP
  cases hc : codeAmong pos ps.toList with
  | none =>
    refine PySem.W.kla_makeFunction (mg := X.mg) (c := c) (P := P) (ps := ps) (closure_ok hfree) I.ok.glob (I.mod.glob.keeps I.bk) hcode (TB.code.keeps I.bk) hP' ht hc TB.gP bP fun c' ctv h' tk hx hge hlt hrec htb => ?_
    have ⟨c2, oc, vs, t, e2, hoc, hd, hv⟩ := hrec
    cases e2
    have nC : H c' = none := I.hok.fresh hge
    have I1 := LamX.inv_table (t' := tk) (more := #[rawInt pos.line, rawInt pos.col, .ref c']) (q := X.env.qual ++ "<lambda>") I hP (fun b o hb e => hx b o hb e) htb hge ⟨oc, vs, t, hoc, hd, hv⟩
    have nPc : P ≠ c' := ne_of_none hP nC
    have eL : (ps ++ #[rawInt pos.line, rawInt pos.col, .ref c']).toList = ps.toList ++ [rawInt pos.line, rawInt pos.col, .ref c'] := by simp
    obtain ⟨G, eG⟩ : ∃ G, G = upd (upd H P (.tbl (ps ++ #[rawInt pos.line, rawInt pos.col, .ref c']))) c' (LamX.CodeO c' (X.env.qual ++ "<lambda>")) := ⟨_, rfl⟩
    rw [← eG] at I1
    have gc : G c' = some (LamX.CodeO c' (X.env.qual ++ "<lambda>")) := by rw [eG, upd_same]
    have hE : LamX.ExtN H G := fun b o e n => by
      rw [eG, upd_ne (ne_of_none e nC), upd_ne (fun z => n ps (Option.some.inj (e.symm.trans (by rw [z]; exact hP))))]
      exact e
    have T1 : NdefX.TabsN T G := fun p hp => by
      by_cases hb : p.1 = P
      · rw [hu p hp hb, hb]
        refine ⟨_, by rw [eG, upd_ne nPc, upd_same], by rw [eL]; exact PySem.TriplesOk_snoc _ _ _ _ ht, fun p' cv hcv => ?_⟩
        rw [eL] at hcv
        rcases NdefX.among_app2 _ ht hcv with z | ⟨z, z1, z2⟩
        · have ⟨c0, e1, e2⟩ := ha p' cv z
          exact ⟨c0, e1, hE _ _ e2 LamX.codeO_ne⟩
        · exact ⟨c', z, by rw [← z1, ← z2, hn]; exact gc⟩
      · have ⟨ps', a1, a2, a3⟩ := hT p hp
        refine ⟨ps', by rw [eG, upd_ne (ne_of_none a1 nC), upd_ne hb]; exact a1, a2, fun p' cv hcv => ?_⟩
        have ⟨c0, e1, e2⟩ := a3 p' cv hcv
        exact ⟨c0, e1, hE _ _ e2 LamX.codeO_ne⟩
    have nF := I1.hok.fresh (Nat.le_refl _)
    have I2 := inv_lam (F := ⟨"<lambda>", X.env.qual ++ "<lambda>", params, [], scope, cloFrom X.env.cells scope.names [], c'⟩) (b := body) (t' := tk) (pm := (X.mg "__name__").getD .none) (ctv := ctv) I1 rfl
    refine ⟨.ref h'.objs.size, _, I2, rfl, h h'.objs.size c' _ (fun b o e n => ?_) (T1.ext fun b o e => ?_) (I.hok.fresh (Nat.le_trans hge (Nat.le_of_lt hlt))) upd_same ?_⟩
    · have e1 := hE b o e n
      exact (upd_ne (ne_of_none e1 nF)).trans e1
    · exact (upd_ne (ne_of_none e nF)).trans e
    · exact (upd_ne (Nat.ne_of_lt hlt)).trans gc
  | some cv =>
    have ⟨c', e, hco⟩ := ha pos cv hc
    subst e
    rw [hn] at hco
    refine PySem.W.kla_makeFunctionHit (mg := X.mg) (c := c) (P := P) (ps := ps) (closure_ok hfree) I.ok.glob (I.mod.glob.keeps I.bk) hcode (TB.code.keeps I.bk) hP' ht hc bP fun ctv h' tk hx hsz => ?_
    have I1 : Inv X pins σ H { s with heap := h', toks := tk } := I.kept hx
    have nF : H h'.objs.size = none := I1.hok.fresh (Nat.le_refl _)
    have I2 := inv_lam (F := ⟨"<lambda>", X.env.qual ++ "<lambda>", params, [], scope, cloFrom X.env.cells scope.names [], c'⟩) (b := body) (t' := tk) (pm := (X.mg "__name__").getD .none) (ctv := ctv) I1 rfl
    exact ⟨.ref h'.objs.size, _, I2, rfl, h h'.objs.size c' _ (fun b o e n => (upd_ne (ne_of_none e nF)).trans e) (hT.ext fun b o e => (upd_ne (ne_of_none e nF)).trans e) nF upd_same ((upd_ne (ne_of_none hco nF)).trans hco)⟩
end
end Z
set_option maxHeartbeats 4000000
namespace Z
open PySem PySem.Spec PyProof.Rows L2
/-- a tuple that has no dict of its own -/
def Fz (H : Hp) (a : Addr) (xs : List V) : Prop := ∃ o : Obj, o.dict = none ∧ H a = some (.frz o (.tup xs))
def Sq (H : Hp) (a : Addr) (xs : List V) : Prop := H a = some (.lst xs) ∨ H a = some (.tup xs) ∨ Fz H a xs
section
variable {H H' : Hp} {a : Addr} {xs ys : List V} {K : PySem.W.Frag}
theorem Fz.same (h : Fz H a xs) (s : Same H H') : Fz H' a xs := let ⟨o, d, e⟩ := h; ⟨o, d, s _ _ e⟩
theorem Fz.sqT (h : Fz H a xs) : SqT K H a xs := let ⟨o, _, e⟩ := h; .inl (.inr ⟨o, e⟩)
theorem Sq.same (h : Sq H a xs) (s : Same H H') : Sq H' a xs := h.imp (s _ _) fun h => h.imp (s _ _) fun h => h.same s
theorem Sq.any (h : Sq H a xs) : SqL K H a xs ∨ SqT K H a xs := h.imp SqL.of fun h => h.elim SqT.of Fz.sqT
theorem Sq.at (h : Sq H a xs) (e : H' a = H a) : Sq H' a xs := h.imp (fun q => e.trans q) fun h => h.imp (fun q => e.trans q) fun ⟨o, d, q⟩ => ⟨o, d, e.trans q⟩
theorem Sq.ne (h : Sq H a xs) {b : Addr} (n : H b = none) : a ≠ b := h.elim (fun e => ne_of_none e n) fun h => h.elim (fun e => ne_of_none e n) fun ⟨_, _, e⟩ => ne_of_none e n
theorem Sq.uni (h : Sq H a xs) (k : Sq H a ys) : xs = ys := by
  rcases h with h | h | ⟨_, _, h⟩ <;> rcases k with k | k | ⟨_, _, k⟩ <;> rw [h] at k <;> cases k <;> rfl
/-- the walk of it: G, its object is as it was -/
theorem Sq.walk (h : Sq H a xs) {R : It → Hp → Prop} (k : ∀ J, Walk J xs.length (fun H' => H' a = H a) (YAt xs) → R J H) : ((∃ xs, SqL K H a xs) ∧ R (Itl K a) H) ∨ ((∃ xs, SqT K H a xs) ∧ R (Itt K a) H) := by
  rcases h with h | h
  · exact .inl ⟨⟨xs, SqL.of h⟩, k _ (walk_list.mono (fun H' e => SqL.of (e.trans h)) fun _ _ _ _ _ _ y => y)⟩
  · have q : ∀ H', H' a = H a → SqT K H' a xs := fun H' e => h.elim (fun z => SqT.of (e.trans z)) fun ⟨o, d, z⟩ => Fz.sqT ⟨o, d, e.trans z⟩
    exact .inr ⟨⟨xs, q H rfl⟩, k _ (walk_tup.mono q fun _ _ _ _ _ _ y => y)⟩
end
def nV (n : Nat) : V := .int (n : Int)
/-- rows of numbers -/
inductive RwA (H : Hp) : List V → List (List Nat) → Prop
  | nil : RwA H [] []
  | cons {a : Addr} {r : List Nat} {vs : List V} {rs : List (List Nat)} (h : Sq H a (r.map nV)) (t : RwA H vs rs) : RwA H (.ref a :: vs) (r :: rs)
section
variable {H H' : Hp} {vs ws : List V} {rs qs : List (List Nat)}
theorem RwA.same (h : RwA H vs rs) (s : Same H H') : RwA H' vs rs := by
  induction h with
  | nil => exact .nil
  | cons h t ih => exact .cons (h.same s) ih
theorem RwA.len (h : RwA H vs rs) : vs.length = rs.length := by
  induction h with
  | nil => rfl
  | cons h t ih => rw [List.length_cons, List.length_cons, ih]
theorem RwA.get (h : RwA H vs rs) : ∀ {i : Nat} {r : List Nat}, rs[i]? = some r → ∃ a, vs[i]? = some (.ref a) ∧ Sq H a (r.map nV) := by
  induction h with
  | nil => intro i r e; simp at e
  | cons h t ih =>
    intro i r e
    cases i with
    | zero => cases (Option.some.inj e); exact ⟨_, rfl, h⟩
    | succ i => exact ih (show _[i]? = some r from e)
theorem RwA.at (h : RwA H vs rs) {i : Nat} {v : V} (e : vs[i]? = some v) : ∃ a r, v = .ref a ∧ rs[i]? = some r ∧ Sq H a (r.map nV) := by
  have hi : i < rs.length := by rw [← h.len]; exact (List.getElem?_eq_some_iff.mp e).1
  obtain ⟨a, e1, q⟩ := h.get (List.getElem?_eq_getElem hi)
  rw [e1] at e
  cases e
  exact ⟨a, _, rfl, List.getElem?_eq_getElem hi, q⟩
theorem RwA.snoc (h : RwA H vs rs) {a : Addr} {r : List Nat} (k : Sq H a (r.map nV)) : RwA H (vs ++ [.ref a]) (rs ++ [r]) := by
  induction h with
  | nil => exact .cons k .nil
  | cons h t ih => exact .cons h ih
theorem RwA.mono (h : RwA H vs rs) (s : ∀ a r, V.ref a ∈ vs → Sq H a r → Sq H' a r) : RwA H' vs rs := by
  induction h with
  | nil => exact .nil
  | cons h t ih => exact .cons (s _ _ (List.mem_cons_self ..) h) (ih fun a r m q => s a r (List.mem_cons_of_mem _ m) q)
end
def RowsAt (H : Hp) (r : Addr) (rows : List (List Nat)) : Prop := ∃ vs, Sq H r vs ∧ RwA H vs rows
def EndsAt (H : Hp) (e : Addr) (ends : List Bool) : Prop := Sq H e (ends.map V.bl)
theorem RowsAt.same {H H' : Hp} {r : Addr} {rows : List (List Nat)} (h : RowsAt H r rows) (s : Same H H') : RowsAt H' r rows := let ⟨vs, a, b⟩ := h; ⟨vs, a.same s, b.same s⟩
def rowD (r : List Nat) : PyData := .tuple (r.map fun (n : Nat) => .int (n : Int))
def maD (A : ZA.Aut) : PyData := .tuple [.tuple (A.rows.map rowD), .tuple (A.ends.map .bool)]
/-- rows that are tuples without dicts -/
inductive RwZ (H : Hp) : List V → List (List Nat) → Prop
  | nil : RwZ H [] []
  | cons {a : Addr} {r : List Nat} {vs : List V} {rs : List (List Nat)} (h : Fz H a (r.map nV)) (t : RwZ H vs rs) : RwZ H (.ref a :: vs) (r :: rs)
section
variable {H H' : Hp} {vs : List V} {rs : List (List Nat)}
theorem RwZ.same (h : RwZ H vs rs) (s : Same H H') : RwZ H' vs rs := by
  induction h with
  | nil => exact .nil
  | cons h t ih => exact .cons (h.same s) ih
theorem RwZ.rw (h : RwZ H vs rs) : RwA H vs rs := by
  induction h with
  | nil => exact .nil
  | cons h t ih => exact .cons (.inr (.inr h)) ih
theorem RwZ.len (h : RwZ H vs rs) : vs.length = rs.length := h.rw.len
theorem RwZ.get (h : RwZ H vs rs) : ∀ {i : Nat} {r : List Nat}, rs[i]? = some r → ∃ a, vs[i]? = some (.ref a) ∧ Fz H a (r.map nV) := by
  induction h with
  | nil => intro i r e; simp at e
  | cons h t ih =>
    intro i r e
    cases i with
    | zero => cases (Option.some.inj e); exact ⟨_, rfl, h⟩
    | succ i => exact ih (show _[i]? = some r from e)
theorem RwZ.at (h : RwZ H vs rs) {i : Nat} {v : V} (e : vs[i]? = some v) : ∃ a r, v = .ref a ∧ rs[i]? = some r ∧ Fz H a (r.map nV) := by
  have hi : i < rs.length := by rw [← h.len]; exact (List.getElem?_eq_some_iff.mp e).1
  obtain ⟨a, e1, q⟩ := h.get (List.getElem?_eq_getElem hi)
  rw [e1] at e
  cases e
  exact ⟨a, _, rfl, List.getElem?_eq_getElem hi, q⟩
theorem RwZ.snoc (h : RwZ H vs rs) {a : Addr} {r : List Nat} (k : Fz H a (r.map nV)) : RwZ H (vs ++ [.ref a]) (rs ++ [r]) := by
  induction h with
  | nil => exact .cons k .nil
  | cons h t ih => exact .cons h ih
end
def MaT (H : Hp) (v : V) (A : ZA.Aut) : Prop := ∃ m r e vs, v = .ref m ∧ H m = some (.tup [.ref r, .ref e]) ∧ H r = some (.tup vs) ∧ RwZ H vs A.rows ∧ H e = some (.tup (A.ends.map V.bl))
/-- a machine of any lists or tuples -/
def MaS (H : Hp) (v : V) (A : ZA.Aut) : Prop := ∃ m r e, v = .ref m ∧ H m = some (.tup [.ref r, .ref e]) ∧ RowsAt H r A.rows ∧ EndsAt H e A.ends
theorem MaT.same {H H' : Hp} {v : V} {A : ZA.Aut} (h : MaT H v A) (s : Same H H') : MaT H' v A := let ⟨m, r, e, vs, a, b, c, d, f⟩ := h; ⟨m, r, e, vs, a, s _ _ b, s _ _ c, d.same s, s _ _ f⟩
theorem MaS.same {H H' : Hp} {v : V} {A : ZA.Aut} (h : MaS H v A) (s : Same H H') : MaS H' v A := let ⟨m, r, e, a, b, c, d⟩ := h; ⟨m, r, e, a, s _ _ b, c.same s, d.same s⟩
theorem MaT.s {H : Hp} {v : V} {A : ZA.Aut} (h : MaT H v A) : MaS H v A := let ⟨m, r, e, vs, a, b, c, d, f⟩ := h; ⟨m, r, e, a, b, ⟨vs, .inr (.inl c), d.rw⟩, .inr (.inl f)⟩
section
variable {K : PySem.W.Frag} {H : Hp}
theorem nVs_dp : ∀ (r : List Nat), DpAll K H (r.map nV) (r.map fun (n : Nat) => PyData.int (n : Int))
  | [] => .nil
  | n :: r => .cons (.int _) (nVs_dp r)
theorem bls_dp : ∀ (r : List Bool), DpAll K H (r.map V.bl) (r.map PyData.bool)
  | [] => .nil
  | n :: r => .cons (.bl _) (bls_dp r)
theorem RwZ.dp {vs : List V} {rs : List (List Nat)} (h : RwZ H vs rs) : DpAll K H vs (rs.map rowD) := by
  induction h with
  | nil => exact .nil
  | cons h t ih => exact .cons (.tup h.sqT (nVs_dp _)) ih
theorem MaT.dp {v : V} {A : ZA.Aut} (h : MaT H v A) : Dp K H v (maD A) := by
  obtain ⟨m, r, e, vs, rfl, b, c, d, f⟩ := h
  exact .tup (SqT.of b) (.cons (.tup (SqT.of c) d.dp) (.cons (.tup (SqT.of f) (bls_dp _)) .nil))
end
def rIxA (K : PySem.W.Frag) : R2 := fun x y H Q => ∃ p xs i v, x = .ref p ∧ y = .int i ∧ (SqL K H p xs ∨ SqT K H p xs) ∧ atI xs i = some v ∧ Q v H
theorem ix_any {X : Cx} : IxR X (rIxA X.K) := by
  intro value slice pins s σ H x y v u Q I rx ry ⟨p, xs, i, z, e1, e2, hq, he, q⟩ hs
  rcases hq with hq | hq
  · exact ix_list value slice pins s σ H x y v u Q I rx ry ⟨p, xs, i, z, e1, e2, hq, he, q⟩ hs
  · exact ix_tup value slice pins s σ H x y v u Q I rx ry ⟨p, xs, i, z, e1, e2, hq, he, q⟩ hs
theorem ix_anyK {X : Cx} {K : PySem.W.Frag} (h : X.K = K) : IxR X (rIxA K) := by
  subst h
  exact ix_any
/-- .. not to be opened -/
@[irreducible] def iAnyI (K : PySem.W.Frag) (tl : TE) : TI := iAny K tl
theorem pi_anyK {X : Cx} {K : PySem.W.Frag} {tg l : Expr} {tl : TE} (h : X.K = K) (hl : PE X l tl) : PI X tg l (iAnyI K tl) := by
  subst h
  unfold iAnyI
  exact pi_any hl
theorem bool_index : typeLookup (.type "bool") "__index__" = pure (some (.builtin "int.__index__")) := F.slot_bool_index.lookup
theorem item_tupB {prog : Program} {w : World} {A : Around} {E : Value → Shared → Prop} {s : Shared} {t : Addr} {items : Array Value} {b : Bool} {j : Nat} {x : Value} {Q : Value → Shared → Prop} (ht : IsTup s.heap t items)
    (hj : seqIndex? (if b = true then 1 else 0) items.size = some j) (hx : items[j]? = some x) (h : Q x s) : wpAny (model prog w) A (getItem (.ref t) (.bool b)) Q E s := by
  unfold getItem
  try with_reducible refine wpAny_holding ?_
  first | refine wpAny_bind (wpAny_pure ?_) | skip
  refine wpAny_bind (wpAny_sequenceKey ht.typeIs (by decide) ?_)
  refine wpAny_bind (wpAny_callSpecial?_slot (name := Str.ofString "__getitem__") ht.typeIs slot_tuple_getitem (wpAny_call_entry slot_tuple_getitem ht.typeIs entry_tuple_getitem ?_ (args_tuple_getitem _ _)))
  show wpAny _ _ (Builtin.Tuple.tupleItemsOf (.ref t) >>= _) _ _ s
  refine wpAny_bind (tupleItemsOf_ ht (wpAny_bind (wpAny_typeOf (show s.TypeIs (.bool b) "bool" from rfl) ?_)))
  rw [if_neg (by decide)]
  refine wpAny_bind (wpAny_specialOf (T := "bool") (show s.TypeIs (.bool b) "bool" from rfl) bool_index ?_)
  rw [if_neg (by simp)]
  refine wpAny_bind (wpAny_of_eq (a := if b = true then 1 else 0) (by cases b <;> rfl) ?_)
  have e : ¬ (((if b = true then 1 else 0 : Int) < -(2 ^ 63) || (if b = true then 1 else 0 : Int) ≥ 2 ^ 63) = true) := by cases b <;> decide
  rw [if_neg e]
  simp only [hj, Option.bind_some, hx]
  exact wpAny_pure ⟨_, rfl, wpAny_pure h⟩
/-- xs[b], b a truth, xs a tuple -/
def rIxB (K : PySem.W.Frag) : R2 := fun x y H Q => ∃ p xs b v, x = .ref p ∧ y = .bl b ∧ SqT K H p xs ∧ xs[if b = true then 1 else 0]? = some v ∧ Q v H
theorem ix_tupB {X : Cx} : IxR X (rIxB X.K) := by
  intro value slice pins s σ H x y v u Q I rx ry h hs
  obtain ⟨p, xs, b, z, rfl, rfl, hq, he, q⟩ := h
  obtain rfl : v = Value.ref p := rx
  obtain rfl : u = Value.bool b := ry
  obtain ⟨its, r, pl, hz⟩ := I.tuple hq
  obtain ⟨w, ew, rw'⟩ := r.get he
  have fin : EP X pins σ Q w s := ⟨z, H, I, rw', q⟩
  have hb : (if b = true then 1 else 0) < its.length := by
    obtain ⟨h1, _⟩ := List.getElem?_eq_some_iff.mp ew
    exact h1
  refine subscriptTail_builtinR (x := w) pl.typeIs slot_tuple_getitem.lookup (item_tupB (j := if b = true then 1 else 0) (Q := fun r s' => r = w ∧ EP X pins σ Q r s') pl ?_ (by simpa using ew) ⟨rfl, fin⟩) hs
  rw [List.size_toArray]
  cases b
  · exact seqIndex_of (by decide) (by have hb : 0 < its.length := hb; show (0 : Int) < _; omega)
  · exact seqIndex_of (by decide) (by have hb : 1 < its.length := hb; show (1 : Int) < _; omega)
theorem ix_tupBK {X : Cx} {K : PySem.W.Frag} (h : X.K = K) : IxR X (rIxB K) := by
  subst h
  exact ix_tupB
/-- xs[b], b a truth, xs a list -/
theorem item_listB {prog : Program} {w : World} {A : Around} {E : Value → Shared → Prop} {s : Shared} {l : Addr} {items : Array Value} {b : Bool} {x : Value} {Q : Value → Shared → Prop} (hl : s.heap.IsList l items)
    (hx : items[if b = true then 1 else 0]? = some x) (h : Q x s) : wpAny (model prog w) A (getItem (.ref l) (.bool b)) Q E s := by
  have ⟨o, ho, hc, ne, hd⟩ := hl
  unfold getItem
  try with_reducible refine wpAny_holding ?_
  first | refine wpAny_bind (wpAny_pure ?_) | skip
  refine wpAny_bind (wpAny_sequenceKey hl.typeIs (by decide) ?_)
  refine wpAny_bind (wpAny_callSpecial?_slot (name := Str.ofString "__getitem__") hl.typeIs slot_list_getitem (wpAny_call_entry slot_list_getitem hl.typeIs entry_list_getitem ?_ (args_list_getitem _ _)))
  show wpAny _ _ (Builtin.List.listSubscript? (.bool b) >>= _) _ _ s
  refine wpAny_bind ?_
  unfold Builtin.List.listSubscript?
  refine wpAny_bind (wpAny_specialOf (T := "bool") (show s.TypeIs (.bool b) "bool" from rfl) bool_index ?_)
  show wpAny _ _ (asIndex (.bool b) >>= _) _ _ s
  refine wpAny_bind (wpAny_of_eq (a := if b = true then 1 else 0) (by cases b <;> rfl) ?_)
  show wpAny _ _ (if (!Builtin.List.listFitsIndex (if b = true then 1 else 0)) = true then _ else _) _ _ s
  rw [if_neg (by cases b <;> decide)]
  refine wpAny_pure ?_
  cases b with
  | false =>
    have hx : items[0]? = some x := hx
    show wpAny _ _ ((seqItemAt l 0 >>= fun r => pure (r.map (0, ·))) >>= _) _ _ s
    refine wpAny_bind (wpAny_bind (wpAny_seqItemAt ho hd (wpAny_pure ?_)))
    rw [hx]
    first
      | exact wpAny_bind (wpAny_pure (wpAny_pure ⟨x, rfl, wpAny_pure h⟩))
      | exact wpAny_pure ⟨x, rfl, wpAny_pure h⟩
  | true =>
    have hx : items[1]? = some x := hx
    show wpAny _ _ ((seqItemAt l 1 >>= fun r => pure (r.map (1, ·))) >>= _) _ _ s
    refine wpAny_bind (wpAny_bind (wpAny_seqItemAt ho hd (wpAny_pure ?_)))
    rw [hx]
    first
      | exact wpAny_bind (wpAny_pure (wpAny_pure ⟨x, rfl, wpAny_pure h⟩))
      | exact wpAny_pure ⟨x, rfl, wpAny_pure h⟩
def rIxLB (K : PySem.W.Frag) : R2 := fun x y H Q => ∃ p xs b v, x = .ref p ∧ y = .bl b ∧ SqL K H p xs ∧ xs[if b = true then 1 else 0]? = some v ∧ Q v H
theorem ix_listB {X : Cx} : IxR X (rIxLB X.K) := by
  intro value slice pins s σ H x y v u Q I rx ry h hs
  obtain ⟨p, xs, b, z, rfl, rfl, hq, he, q⟩ := h
  obtain rfl : v = Value.ref p := rx
  obtain rfl : u = Value.bool b := ry
  obtain ⟨its, r, pl, hz⟩ := I.list hq
  obtain ⟨w, ew, rw'⟩ := r.get he
  have fin : EP X pins σ Q w s := ⟨z, H, I, rw', q⟩
  exact subscriptTail_builtinR (x := w) pl.isList.typeIs slot_list_getitem.lookup (item_listB (Q := fun r s' => r = w ∧ EP X pins σ Q r s') pl.isList (by simpa using ew) ⟨rfl, fin⟩) hs
theorem ix_listBK {X : Cx} {K : PySem.W.Frag} (h : X.K = K) : IxR X (rIxLB K) := by
  subst h
  exact ix_listB
/-- t.count(k), t a tuple of whole numbers -/
def rCntT (K : PySem.W.Frag) : V → List V → Hp → VK → Prop := fun x xs H Q => ∃ (p : Addr) (ns : List Int) (k : Int), x = .ref p ∧ xs = [.int k] ∧ SqT K H p (ns.map V.int) ∧ Q (.int (ns.count k : Nat)) H
theorem mt_tcount {X : Cx} : MtR X "tuple.count" (rCntT X.K) := by
  intro pins s σ H x xs v us Q I rx rxs ⟨p, ns, k, e1, e2, hs, q⟩
  subst e1 e2
  cases rx
  obtain ⟨u, rfl, t, rfl⟩ := rxs.one
  obtain ⟨its, rv, ⟨⟨cls, dd, data, sl⟩, ho, hc, n, hd⟩, hlen⟩ := I.tuple hs
  simp only at hc hd
  subst hc hd
  have hi := ints_of_vals rv
  refine call_meets PySem.F.slot_tuple_count ⟨_, ho, rfl⟩ PySem.F.entry_tuple_count (PySem.F.args_tuple_count_2 _ _) (SeqAt.tuple_countAt p its.toArray n dd sl (.int k t) (eqk k)) ⟨ho, fun y hy => (eqk_gives hi y (by simpa using hy)).at _ _, ?_⟩
  have ec : its.toArray.toList.countP (eqk k) = ns.count k := eqk_count hi
  refine ⟨.int (ns.count k : Nat), H, I.tok _, ⟨s.toks, ?_⟩, q⟩
  show Value.int ((its.toArray.toList.countP (eqk k) : Nat) : Int) s.toks = _
  rw [ec]
/-- tuple(l), l a list: a tuple without a dict -/
theorem call_tupleZ {X : Cx} {K : PySem.W.Frag} (hK : X.K = K) : CallR X (.type "tuple") (fun xs H Q => ∃ p ys, xs = [V.ref p] ∧ SqL K H p ys ∧ ∀ l o, H l = none → o.dict = none → Q (.ref l) (upd H l (.frz o (.tup ys)))) := by
  subst hK
  intro pins s σ H xs us Q I r ⟨p, ys, e, hq, q⟩
  subst e
  obtain ⟨u, rfl, rx⟩ := vals1 r
  cases rx
  have ⟨its, r', pl, hz⟩ := I.list hq
  have hlen := r'.length
  refine call_tuple_list pl.isList (fun h' kp => ?_) (by simp only [List.size_toArray] <;> omega)
  have I1 : Inv X pins σ H { s with heap := h' } := I.kept (t' := s.toks) kp
  have I2 : Inv X pins σ (upd H h'.objs.size (.frz { cls := .type "tuple", data := .seq its.toArray } (.tup ys))) { s with heap := h'.push { cls := .type "tuple", data := .seq its.toArray } } :=
    I1.laid (t' := s.toks) (fun b o e => Heap.get?_push_of_some _ e) (Nat.le_refl _) (show ObjOk X.prog X.w _ _ _ (.frz _ (.tup ys)) from ⟨Heap.get?_push_size _ rfl, hz, its, r', IsTup.new _ _⟩)
  exact ⟨.ref h'.objs.size, _, I2, rfl, q _ _ (I1.hok.fresh (Nat.le_refl _)) rfl⟩
/-- t.m(e, ..), t such a tuple -/
def tBMz (r : V → List V → Hp → VK → Prop) (to : TE) (t : TA) : TE := fun σ H Q => to σ H fun x H1 => (∃ a ys, x = .ref a ∧ Fz H1 a ys) ∧ t σ H1 fun xs H2 => r x xs H2 Q
theorem pe_bmz {X : Cx} {o e : Expr} {es : List Expr} {to : TE} {t : TA} {name : Str} {apos cpos : Pos} {id : String} {r : V → List V → Hp → VK → Prop} (pa : PlainAttrs "tuple") (slot : Slot "tuple" name id) (hty : typeOf (.builtin id) = pure (.type "method_descriptor")) (hm : MtR X id r) (ho : PE X o to) (ha : PA X (e :: es) t)
    (hbase : attributeBase o name X.env (eval o X.env) = eval o X.env := by rfl)
    (hfew : ((backTo cpos (starEach (e :: es) X.env)).all (fun x => !x.1) && (backToKw cpos (keywordEach [] X.env)).all (fun x => x.1.isSome)
      && decide ((e :: es).length + ([] : List Keyword).length + (if ([] : List Keyword).isEmpty then 0 else 1) < 30)) = true := by rfl)
    (hline : (apos.endLine == cpos.line) = true := by rfl) (hs : starEach (e :: es) X.env = (false, eval e X.env) :: starEach es X.env := by rfl) (hplain : (backTo cpos (starEach es X.env)).any (·.1) = false := by rfl) :
    PE X (.Call (.Attribute o name apos) (e :: es) [] cpos) (tBMz r to t) := by
  refine ⟨fun pins s σ H Q I h => wpAny_Call_method_late hbase hfew hline rfl (thn (ho.run pins s σ H _ I h) fun v s1 ⟨x, H1, I1, r1, ⟨a, ys, ex, ob, hd, hz⟩, q1⟩ => ?_)⟩
  subst ex
  obtain rfl : v = Value.ref a := r1
  have ⟨g, _, its, _, o', ho', hc', _⟩ := (show ObjOk X.prog X.w H1 s1.heap a (.frz ob (.tup ys)) from I1.hok a _ hz)
  rw [g] at ho'
  cases ho'
  have hA := ha.run cpos pins s1 σ H1 _ I1 q1
  rw [hs] at hA
  refine ⟨"tuple", id, pa, slot, hty, ⟨ob, g, hc'⟩, fun b e => ?_, ?_⟩
  · cases e
    exact ⟨ob, g, hd⟩
  rw [hs]
  refine Calls.callWith_builtin (by show (false || (backTo cpos (starEach es X.env)).any (·.1)) = false; rw [hplain] <;> rfl) (Calls.evalArgs_plain (thn hA fun us s2 ⟨vs, H2, I2, r2, q2⟩ => hm pins s2 σ H2 (.ref a) vs (.ref a) us Q I2 rfl r2 q2))
theorem mt_tcountK {X : Cx} {K : PySem.W.Frag} (h : X.K = K) : MtR X "tuple.count" (rCntT K) := h ▸ mt_tcount
/-- a or .., a any value whose truth is told -/
def tOrT (K : PySem.W.Frag) (ta tb : TE) : TE := fun σ H Q => ta σ H fun x H1 => ∃ k, TruV K x H1 k ∧ if k = true then Q x H1 else tb σ H1 Q
theorem pe_orT {X : Cx} {K : PySem.W.Frag} {a b : Expr} {rest : List Expr} {ta tb : TE} {pos : Pos} (hK : X.K = K) (ha : PE X a ta) (hb : PE X (.BoolOp .Or (b :: rest) pos) tb) : PE X (.BoolOp .Or (a :: b :: rest) pos) (tOrT K ta tb) := by
  subst hK
  refine ⟨fun pins s σ H Q I h => BoolOp_or (thn (ha.run pins s σ H _ I h) fun v s1 ⟨x, H1, I1, r1, k, tr, q⟩ => thn (tru_ok pins s1 σ H1 x v (fun d H' => d = k ∧ H' = H1) I1 r1 ⟨k, tr, rfl, rfl⟩) fun d s2 ⟨H2, I2, e1, e2⟩ => ?_)⟩
  subst e1 e2
  cases d with
  | false => exact hb.run pins s2 σ H2 Q I2 q
  | true => exact ⟨x, H2, I2, r1, q⟩
theorem yes_to {σ : L2.St} {H : Hp} {te : TE} {R : VK} {N : Hp → Prop} (h : te σ H R) : tYes σ H fun b H3 => if b = true then te σ H3 R else N H3 := (show (if true = true then te σ H R else N H) from by rw [if_pos rfl]; exact h)
theorem any_get {K : PySem.W.Frag} {tl : TE} {σ : L2.St} {H : Hp} {a : Addr} {xs : List V} {R : It → Hp → Prop} (hm : ∀ P : VK, P (.ref a) H → tl σ H P) (h : Sq H a xs) (k : ∀ J, Walk J xs.length (fun H' => H' a = H a) (YAt xs) → R J H) : iAnyI K tl σ H R := by
  unfold iAnyI
  exact hm _ ⟨a, rfl, h.walk k⟩
theorem any_var {K : PySem.W.Frag} {i : Nat} {σ : L2.St} {H : Hp} {a : Addr} {xs : List V} {R : It → Hp → Prop} (e : σ[i]? = some (some (.ref a))) (h : Sq H a xs) (k : ∀ J, Walk J xs.length (fun H' => H' a = H a) (YAt xs) → R J H) : iAnyI K (tVar i) σ H R := any_get (fun _ q => ⟨_, e, q⟩) h k
theorem same_new {H H' : Hp} {a : Addr} {o : HO} (s : Same H H') (n : H' a = none) : Same H (upd H' a o) := Same.new _ s n
theorem none_back {H H' : Hp} {a : Addr} (s : Same H H') (n : H' a = none) : H a = none := by
  cases e : H a with
  | none => rfl
  | some o =>
    rw [s _ _ e] at n
    cases n
theorem Sq.eqs {H H1 H2 : Hp} {a : Addr} {xs : List V} (h : Sq H a xs) (s1 : Same H H1) (s2 : Same H H2) : H1 a = H2 a := by
  rcases h with h | h | ⟨_, _, h⟩ <;> rw [s1 _ _ h, s2 _ _ h]
/-- range(n) as a value -/
theorem cr_range1 {X : Cx} : CallR X (.type "range") (fun vs H Q => ∃ n, vs = [V.int n] ∧ ∀ p, H p = none → Q (.ref p) (upd H p (.rng 0 n))) := by
  intro pins s σ H vs us Q I r ⟨n, e, q⟩
  subst e
  obtain ⟨u, rfl, t, rfl⟩ := vals1 r
  refine call_range_1 ⟨.ref s.heap.objs.size, upd H s.heap.objs.size (.rng 0 n), I.laid (t' := s.toks + 1 + 1) (fun b o e => Heap.get?_push_of_some _ e) (Nat.le_refl _) ?_, rfl, q _ (I.hok.fresh (Nat.le_refl _))⟩
  exact ⟨s.toks, t, s.toks + 1, Heap.get?_push_size _ rfl⟩
/-- xs[j] as the target of an augmented assignment, xs a list -/
def rGetN (K : PySem.W.Frag) : V → V → Hp → VK → Prop := fun o i H Q => ∃ p xs j v, o = .ref p ∧ i = .int ((j : Nat) : Int) ∧ SqL K H p xs ∧ xs[j]? = some v ∧ Q v H
theorem get_list {X : Cx} {K : PySem.W.Frag} (hK : X.K = K) : PGet X (rGetN K) := by
  subst hK
  intro pins s σ H o i ov iv Q I ro ri ⟨p, xs, j, v, e1, e2, hq, he, q⟩
  subst e1 e2
  obtain rfl : ov = Value.ref p := ro
  have ⟨t, et⟩ := ri
  subst et
  have ⟨its, r, pl, hz⟩ := I.list hq
  have ⟨w, ew, rw'⟩ := r.get he
  have hn := line63
  have hj := (List.getElem?_eq_some_iff.mp he).1
  exact wpAny_getItem_list pl.isList (by omega) (by omega) (by simpa using ew) ⟨v, H, I, rw', q⟩
theorem op_inK {X : Cx} {K : PySem.W.Frag} (h : X.K = K) : OpR X (compareOp .In) (rIn K false) := h ▸ op_in_seq
theorem inV_nV {n : Nat} : ∀ {ns : List Nat}, inV (nV n) (ns.map nV) = decide (n ∈ ns)
  | [] => rfl
  | m :: ns => by
    have ih := inV_nV (n := n) (ns := ns)
    unfold inV at ih ⊢
    have e2 : eqV (nV m) (nV n) = decide (m = n) := by
      show ((m : Int) == (n : Int)) = decide (m = n)
      by_cases e : m = n
      · simp [e]
      · have : ¬ (m : Int) = n := by omega
        simp [e, this]
    rw [List.map_cons, List.any_cons, ih, e2]
    by_cases e : m = n
    · simp [e]
    · have : ¬ n = m := fun z => e z.symm
      simp [e, this]
theorem flat_nV (ns : List Nat) : (ns.map nV).all flatV = true := by
  rw [List.all_map, List.all_eq_true]
  exact fun _ _ => rfl
/-- d.m(e, ..), d a dict with mixed keys -/
def tBMx (w : World) (r : V → List V → Hp → VK → Prop) (to : TE) (t : TA) : TE := fun σ H Q => to σ H fun x H1 => (∃ d xs, x = .ref d ∧ MixD.XD w H1 d xs) ∧ t σ H1 fun xs H2 => r x xs H2 Q
theorem pe_bmx {X : Cx} {w : World} {o e : Expr} {es : List Expr} {to : TE} {t : TA} {name : Str} {apos cpos : Pos} {id : String} {r : V → List V → Hp → VK → Prop} (hw : X.w = w) (pa : PlainAttrs "dict") (slot : Slot "dict" name id) (hty : typeOf (.builtin id) = pure (.type "method_descriptor")) (hm : MtR X id r) (ho : PE X o to) (ha : PA X (e :: es) t)
    (hbase : attributeBase o name X.env (eval o X.env) = eval o X.env := by rfl)
    (hfew : ((backTo cpos (starEach (e :: es) X.env)).all (fun x => !x.1) && (backToKw cpos (keywordEach [] X.env)).all (fun x => x.1.isSome)
      && decide ((e :: es).length + ([] : List Keyword).length + (if ([] : List Keyword).isEmpty then 0 else 1) < 30)) = true := by rfl)
    (hline : (apos.endLine == cpos.line) = true := by rfl) (hs : starEach (e :: es) X.env = (false, eval e X.env) :: starEach es X.env := by rfl) (hplain : (backTo cpos (starEach es X.env)).any (·.1) = false := by rfl) :
    PE X (.Call (.Attribute o name apos) (e :: es) [] cpos) (tBMx w r to t) := by
  subst hw
  refine ⟨fun pins s σ H Q I h => wpAny_Call_method_late hbase hfew hline rfl (thn (ho.run pins s σ H _ I h) fun v s1 ⟨x, H1, I1, r1, ⟨d, xs, ex, xd⟩, q1⟩ => ?_)⟩
  subst ex
  obtain rfl : v = Value.ref d := r1
  have ⟨_, _, _, es0, e1, _⟩ := xd
  have ⟨⟨ob, l, ep, ho2, hc2, _⟩, _, _⟩ := (show ObjOk X.prog X.w H1 s1.heap d (MixD.mixO d es0) from I1.hok d _ e1)
  have hA := ha.run cpos pins s1 σ H1 _ I1 q1
  rw [hs] at hA
  refine ⟨"dict", id, pa, slot, hty, xd.typeIs I1, fun b e => ?_, ?_⟩
  · cases e
    exact ⟨ob, ho2, hc2.2.1⟩
  rw [hs]
  exact Calls.callWith_builtin (by show (false || (backTo cpos (starEach es X.env)).any (·.1)) = false; rw [hplain] <;> rfl) (Calls.evalArgs_plain (thn hA fun us s2 ⟨vs, H2, I2, r2, q2⟩ => hm pins s2 σ H2 (.ref d) vs (.ref d) us Q I2 rfl r2 q2))
theorem op_repTK {X : Cx} {K : PySem.W.Frag} (h : X.K = K) : OpR X (binaryOp .Mult) (rRepT K) := h ▸ op_repT
theorem RwA.has {H : Hp} {vs : List V} {rs : List (List Nat)} (h : RwA H vs rs) {a : Addr} (m : V.ref a ∈ vs) : ∃ r, Sq H a r := by
  obtain ⟨i, hi⟩ := List.mem_iff_getElem?.mp m
  obtain ⟨a', r, e, _, q⟩ := h.at hi
  cases e
  exact ⟨_, q⟩
theorem ixN_at {n j : Nat} (h : j < n) : ixN n (j : Int) = some j := by
  unfold ixN
  rw [if_pos (by omega), if_pos (by omega)]
  rfl
theorem sqL_same {K : PySem.W.Frag} {H H' : Hp} {a : Addr} {xs : List V} (h : SqL K H a xs) (s : Same H H') : SqL K H' a xs := h.imp (fun r => r.imp (s _ _) fun ⟨o, e⟩ => ⟨o, s _ _ e⟩) id
theorem sqT_same {K : PySem.W.Frag} {H H' : Hp} {a : Addr} {xs : List V} (h : SqT K H a xs) (s : Same H H') : SqT K H' a xs := h.imp (fun r => r.imp (s _ _) fun ⟨o, e⟩ => ⟨o, s _ _ e⟩) id
theorem none_of {H : Hp} {a b : Addr} {o : HO} (h : upd H a o b = none) : H b = none := by
  by_cases e : b = a
  · rw [e, upd_same] at h
    cases h
  · rw [upd_ne e] at h
    exact h
theorem none_ne {H : Hp} {a b : Addr} {o : HO} (h : upd H a o b = none) : b ≠ a := fun e => by
  rw [e, upd_same] at h
  cases h
/-- what is new may be written -/
theorem same_upd {H H' : Hp} {D : Addr} {o : HO} (s : Same H H') (n : H D = none) : Same H (upd H' D o) := fun b u e => by
  rw [upd_ne (ne_of_none e n)]
  exact s b u e
theorem call_lenA {X : Cx} {K : PySem.W.Frag} (hK : X.K = K) : CallR X (.builtin "len") (fun xs H Q => ∃ p ys, xs = [V.ref p] ∧ (SqL K H p ys ∨ SqT K H p ys) ∧ Q (V.int (ys.length : Nat)) H) := hK ▸ call_len_seq
theorem if_no {b : Bool} {A B : Prop} (h : b = false) (k : B) : if b = true then A else B := by
  rw [h]
  exact k
theorem if_yes {b : Bool} {A B : Prop} (h : b = true) (k : A) : if b = true then A else B := by
  rw [h]
  exact k
theorem norm {N : L2.St → Hp → Prop} {σ σ' : L2.St} {H : Hp} (e : σ = σ') (h : N σ' H) : N σ H := e ▸ h
theorem normG {i : Nat} {v : V} {σ σ' : L2.St} {H : Hp} {N : L2.St → Hp → Prop} (e : σ.set i (some v) = σ') (h : N σ' H) : gName i v σ H N := by
  subst e
  exact h
theorem mid {S1 S2 : TS} {D : Ends} {σ : L2.St} {H : Hp} (W2 : L2.St → Hp → Prop) (h1 : (∀ σ' H', W2 σ' H' → S2 D σ' H') → tSeq S1 S2 D σ H) (h2 : ∀ σ' H', W2 σ' H' → S2 D σ' H') : tSeq S1 S2 D σ H := h1 h2
theorem un_next {D : Ends} {σ : L2.St} {H : Hp} (h : D.nx σ H) : tNext D σ H := h
theorem pg_tupK {X : Cx} {K : PySem.W.Frag} {es : List Expr} {k : Nat} {pos : Pos} {t : TGs} {n : Nat} (hK : X.K = K) (hc : X.calm = true) (h : PGs X es t)
    (hn : (assignEach es X.env).length = n := by rfl) (hst : (assignEach es X.env).findIdx? (·.1) = none := by rfl) : PG X (.Tuple es k pos) (gTup K n t) := by
  subst hK
  exact pg_tup hc h hn hst
theorem at0 {x : V} {l : List V} : atI (x :: l) 0 = some x := atI_nat (xs := x :: l) (j := 0) rfl
theorem at1 {x y : V} {l : List V} : atI (x :: y :: l) 1 = some y := atI_nat (xs := x :: y :: l) (j := 1) rfl
theorem at2 {x y z : V} {l : List V} : atI (x :: y :: z :: l) 2 = some z := atI_nat (xs := x :: y :: z :: l) (j := 2) rfl
theorem at3 {x y z u : V} {l : List V} : atI (x :: y :: z :: u :: l) 3 = some u := atI_nat (xs := x :: y :: z :: u :: l) (j := 3) rfl
theorem atN {xs : List V} {j : Nat} {v : V} (h : xs[j]? = some v) : atI xs (j : Int) = some v := atI_nat h
theorem szM (n : Nat) (h : n ≤ 1000000) : n ≤ sizeLine := by
  rw [sizeLine_eq]
  omega
theorem szL (n : Nat) (h : n < 1000000) : n < sizeLine := by
  rw [sizeLine_eq]
  omega
theorem lc_all {J : It} {n : Nat} {G : Hp → Prop} {Y : Nat → Hp → V → Hp → Prop} (w : Walk J n G Y) {g : TG} {tt : TT} {te : TE} {vs : List Nat} {σ : L2.St} {H1 : Hp} {D : Addr} {Qd : Hp → Prop} (hD : H1 D = none) (hn : n ≤ 1000000) (Pel : Nat → V → Hp → Prop)
    (up : ∀ i y H H', (∀ b o, b ≠ D → H b = some o → H' b = some o) → Pel i y H → Pel i y H') (hG : ∀ H, Same H1 H → G H)
    (hs : ∀ i x H H' (R : VK) (N : Hp → Prop) zs, i < n → Same H1 H → H D = some (.lst zs) → Y i H x H' → (∀ y H4, Same H H4 → Pel i y H4 → R y H4) → g x (wipe σ vs) H' fun σ2 H2 => wipe σ2 vs = wipe σ vs ∧ tt σ2 H2 fun b H3 => if b = true then te σ2 H3 R else N H3)
    (hd : ∀ ys H, ys.length = n → (∀ i y, ys[i]? = some y → Pel i y H) → Same H1 H → H D = some (.lst ys) → Qd H) :
    ∃ W : Nat → Nat → Hp → Prop, (∃ m, W 0 m (upd H1 D (.lst []))) ∧ ∀ i m H, W i m H →
      (J.stop i H ∧ Qd H) ∨ (J.go i H ∧ ∃ Nx : Hp → Prop, (∀ H', Nx H' → ∃ m', m' < m ∧ W (i + 1) m' H') ∧ ∀ x H', J.yld i H x H' → g x (wipe σ vs) H' fun σ2 H2 => wipe σ2 vs = wipe σ vs ∧ tt σ2 H2 fun b H3 =>
        if b = true then te σ2 H3 fun y H4 => ∃ acc, H4 D = some (.lst acc) ∧ acc.length < sizeLine ∧ Nx (upd H4 D (.lst (acc ++ [y]))) else Nx H3) := by
  refine lc_it w (fun i H => ∃ ys, H D = some (.lst ys) ∧ ys.length = i ∧ (∀ j y, ys[j]? = some y → Pel j y H) ∧ Same H1 H) ⟨[], upd_same, rfl, fun j y e => by simp at e, Same.new _ (Same.refl H1) hD⟩ (fun i H _ ⟨_, _, _, _, s⟩ => hG H s) ?_ ?_
  · rintro i x H H' hi ⟨ys, eD, ly, py, s⟩ yy
    refine hs i x H H' _ _ ys hi s eD yy fun y H4 s4 p4 => ?_
    refine ⟨ys, s4 _ _ eD, szL _ (by omega), ys ++ [y], upd_same, by simp [ly], fun j z ez => ?_, same_upd (s.trans s4) hD⟩
    have keep : ∀ b o, b ≠ D → H4 b = some o → upd H4 D (.lst (ys ++ [y])) b = some o := fun b o ne e => by rw [upd_ne ne]; exact e
    by_cases hj : j < ys.length
    · rw [List.getElem?_append_left hj] at ez
      exact up j z H _ (fun b o ne e => keep b o ne (s4 b o e)) (py j z ez)
    · rw [List.getElem?_append_right (by omega)] at ez
      have hj2 : j = i := by
        have := (List.getElem?_eq_some_iff.mp ez).1
        simp at this
        omega
      subst hj2
      rw [ly, Nat.sub_self] at ez
      cases (Option.some.inj ez)
      exact up j y H4 _ keep p4
  · rintro H ⟨ys, eD, ly, py, s⟩
    exact hd ys H ly py s eD
theorem list_is {ys : List V} {n : Nat} {f : Nat → V} (l : ys.length = n) (h : ∀ (i : Nat) y, ys[i]? = some y → y = f i) : ys = (List.range n).map f := by
  refine List.ext_getElem (by simp [l]) fun j a b => ?_
  rw [h j _ (List.getElem?_eq_getElem a)]
  simp
theorem list_maps {α : Type} {xs : List α} {ys : List V} {f : α → V} (l : ys.length = xs.length) (h : ∀ (i : Nat) y, ys[i]? = some y → ∀ s, xs[i]? = some s → y = f s) : ys = xs.map f := by
  refine List.ext_getElem (by simp [l]) fun j a b => ?_
  have hj : j < xs.length := by simpa using b
  rw [h j _ (List.getElem?_eq_getElem a) _ (List.getElem?_eq_getElem hj)]
  simp
theorem map_at {α : Type} {xs : List α} {f : α → V} {i : Nat} {x : V} (e : (xs.map f)[i]? = some x) : ∃ s, xs[i]? = some s ∧ x = f s := by
  rw [List.getElem?_map] at e
  obtain ⟨s, h, rfl⟩ := Option.map_eq_some_iff.mp e
  exact ⟨s, h, rfl⟩
/-- lists in a list -/
inductive RwL (H : Hp) : List V → List (List V) → Prop
  | nil : RwL H [] []
  | cons {a : Addr} {r : List V} {vs : List V} {rs : List (List V)} (h : H a = some (.lst r)) (t : RwL H vs rs) : RwL H (.ref a :: vs) (r :: rs)
section
variable {H H' : Hp} {vs : List V} {rs : List (List V)}
theorem RwL.same (h : RwL H vs rs) (s : Same H H') : RwL H' vs rs := by
  induction h with
  | nil => exact .nil
  | cons h t ih => exact .cons (s _ _ h) ih
theorem RwL.len (h : RwL H vs rs) : vs.length = rs.length := by
  induction h with
  | nil => rfl
  | cons h t ih => rw [List.length_cons, List.length_cons, ih]
theorem RwL.get (h : RwL H vs rs) : ∀ {i : Nat} {r : List V}, rs[i]? = some r → ∃ a, vs[i]? = some (.ref a) ∧ H a = some (.lst r) := by
  induction h with
  | nil => intro i r e; simp at e
  | cons h t ih =>
    intro i r e
    cases i with
    | zero => cases (Option.some.inj e); exact ⟨_, rfl, h⟩
    | succ i => exact ih (show _[i]? = some r from e)
theorem RwL.of : ∀ {vs : List V} {rs : List (List V)}, vs.length = rs.length → (∀ (i : Nat) v r, vs[i]? = some v → rs[i]? = some r → ∃ a, v = V.ref a ∧ H a = some (.lst r)) → RwL H vs rs
  | [], [], _, _ => .nil
  | v :: vs, r :: rs, l, h => by
    obtain ⟨a, rfl, e⟩ := h 0 v r rfl rfl
    exact .cons e (RwL.of (by simpa using l) fun i v r a b => h (i + 1) v r a b)
end
theorem RwA.of {H : Hp} : ∀ {vs : List V} {rs : List (List Nat)}, vs.length = rs.length → (∀ (i : Nat) v r, vs[i]? = some v → rs[i]? = some r → ∃ a, v = V.ref a ∧ Sq H a (r.map nV)) → RwA H vs rs
  | [], [], _, _ => .nil
  | v :: vs, r :: rs, l, h => by
    obtain ⟨a, rfl, e⟩ := h 0 v r rfl rfl
    exact .cons e (RwA.of (by simpa using l) fun i v r a b => h (i + 1) v r a b)
set_option allowUnsafeReducibility true
end Z
set_option maxHeartbeats 4000000
namespace Z
open PySem PySem.Spec PyProof.Rows L2 MixD ZpR
theorem val_put {α : Type} {xs : List (NestedKey × α)} {k k' : NestedKey} {y : α} : val (put xs k y) k' = if k' = k then some y else val xs k' := by
  unfold put
  split
  · rename_i hm
    induction xs with
    | nil => simp at hm
    | cons p xs ih =>
      unfold val at ih ⊢
      rw [List.map_cons, List.find?_cons, List.find?_cons]
      by_cases e : p.1 = k
      · by_cases e2 : k' = k
        · simp [e, e2]
        · have : ¬ k = k' := fun z => e2 z.symm
          simp only [e, if_true, this, decide_false, e2, if_false]
          by_cases hm2 : k ∈ xs.map (·.1)
          · rw [ih hm2, if_neg e2]
          · congr 2
            refine List.map_congr_left (fun q hq => ?_) |>.trans (List.map_id _)
            rw [if_neg fun z => hm2 (List.mem_map.mpr ⟨q, hq, z⟩)]
            rfl
      · have hm2 : k ∈ xs.map (·.1) := by
          rw [List.map_cons, List.mem_cons] at hm
          exact hm.resolve_left fun z => e z.symm
        rw [if_neg e]
        by_cases e3 : p.1 = k'
        · have : ¬ k' = k := fun z => e (e3.trans z)
          simp [e3, this]
        · simp only [e3, decide_false]
          exact ih hm2
  · rename_i hm
    unfold val
    rw [List.find?_append]
    by_cases e2 : k' = k
    · subst e2
      rw [List.find?_eq_none.mpr fun p hp => by simp only [decide_eq_true_eq]; exact fun e => hm (List.mem_map.mpr ⟨p, hp, e⟩)]
      simp
    · have : ¬ k = k' := fun z => e2 z.symm
      simp only [List.find?_cons, this, decide_false, List.find?_nil, e2, if_false]
      cases xs.find? fun p => decide (p.1 = k') <;> rfl
theorem put_keys {α : Type} {xs : List (NestedKey × α)} {k k' : NestedKey} {y : α} : k' ∈ (put xs k y).map (·.1) ↔ k' = k ∨ k' ∈ xs.map (·.1) := by
  unfold put
  split
  · rename_i hm
    have e : (xs.map fun p => if p.1 = k then (p.1, y) else p).map (·.1) = xs.map (·.1) := by
      rw [List.map_map]
      refine List.map_congr_left fun p hp => ?_
      show (if p.1 = k then (p.1, y) else p).1 = p.1
      split <;> rfl
    rw [e]
    exact ⟨.inr, fun h => h.elim (fun z => z ▸ hm) id⟩
  · rw [List.map_append, List.mem_append]
    simp [or_comm]
/-- what dict(zip(keys, range(..))) tells of a key: a place at which it stands -/
theorem zipR_val : ∀ (ks : List NestedKey) (k : NestedKey), k ∈ ks → ∃ i, ks[i]? = some k ∧ val (zipR ks) k = some (.int (i : Nat)) := by
  refine ZA.snoc_ind (fun k h => by simp at h) fun ks k0 ih k h => ?_
  rw [zipR_snoc, val_put]
  by_cases e : k = k0
  · exact ⟨ks.length, by rw [List.getElem?_append_right (Nat.le_refl _), Nat.sub_self, e]; rfl, by rw [if_pos e]⟩
  · have h2 : k ∈ ks := by
      rcases List.mem_append.mp h with z | z
      · exact z
      · exact absurd (List.mem_singleton.mp z) e
    obtain ⟨i, h3, h4⟩ := ih k h2
    exact ⟨i, by rw [List.getElem?_append_left (List.getElem?_eq_some_iff.mp h3).1]; exact h3, by rw [if_neg e]; exact h4⟩
theorem zipR_keys : ∀ (ks : List NestedKey) (k : NestedKey), k ∈ (zipR ks).map (·.1) ↔ k ∈ ks := by
  refine ZA.snoc_ind (fun k => by simp [zipR]) fun ks k0 ih k => ?_
  rw [zipR_snoc, put_keys, List.mem_append, ih k, List.mem_singleton]
  exact or_comm
/-- the key of a state -/
def kS (A : ZA.Aut) (m : Nat → Int) (s : Nat) : NestedKey := .tup ((ZA.keyOf A m s).map .num)
theorem num_inj : ∀ {a b : List Int}, a.map NestedKey.num = b.map NestedKey.num → a = b
  | [], [], _ => rfl
  | [], _ :: _, h => by cases h
  | _ :: _, [], h => by cases h
  | x :: a, y :: b, h => by
    injection h with h1 h2
    injection h1 with h1
    rw [h1, num_inj h2]
theorem kS_iff {A : ZA.Aut} {m : Nat → Int} {s t : Nat} : kS A m s = kS A m t ↔ ZA.keyOf A m s = ZA.keyOf A m t := by
  refine ⟨fun h => ?_, fun h => by unfold kS; rw [h]⟩
  unfold kS at h
  injection h with h
  exact num_inj h
def unK : NestedKey → List Int
  | .tup ks => ks.map fun | .num i => i | _ => 0
  | _ => []
theorem unK_kS {A : ZA.Aut} {m : Nat → Int} {s : Nat} : unK (kS A m s) = ZA.keyOf A m s := by
  unfold kS unK
  simp only
  rw [List.map_map]
  exact (List.map_congr_left fun _ _ => rfl).trans (List.map_id _)
def ksOf (A : ZA.Aut) (m : Nat → Int) : List NestedKey := (List.range A.n).map (kS A m)
theorem ks_at {A : ZA.Aut} {m : Nat → Int} {s : Nat} (h : s < A.n) : (ksOf A m)[s]? = some (kS A m s) := by simp [ksOf, h]
theorem ks_mem {A : ZA.Aut} {m : Nat → Int} {s : Nat} (h : s < A.n) : kS A m s ∈ ksOf A m := List.mem_of_getElem? (ks_at h)
theorem ks_get {A : ZA.Aut} {m : Nat → Int} {i : Nat} {k : NestedKey} (h : (ksOf A m)[i]? = some k) : i < A.n ∧ k = kS A m i := by
  have hi : i < A.n := by
    have := (List.getElem?_eq_some_iff.mp h).1
    simpa [ksOf] using this
  rw [ks_at hi] at h
  exact ⟨hi, (Option.some.inj h).symm⟩
/-- the next marks -/
def nxM (A : ZA.Aut) (m : Nat → Int) (s : Nat) : Int := match val (zipR (ksOf A m)) (kS A m s) with
  | some (.int i) => i
  | _ => 0
theorem nx_val {A : ZA.Aut} {m : Nat → Int} {s : Nat} (h : s < A.n) : val (zipR (ksOf A m)) (kS A m s) = some (.int (nxM A m s)) := by
  obtain ⟨i, _, e⟩ := zipR_val _ _ (ks_mem (m := m) h)
  unfold nxM
  rw [e]
theorem nx_at {A : ZA.Aut} {m : Nat → Int} {s : Nat} (h : s < A.n) : ∃ i, i < A.n ∧ nxM A m s = (i : Nat) ∧ kS A m i = kS A m s := by
  obtain ⟨i, e1, e⟩ := zipR_val _ _ (ks_mem (m := m) h)
  obtain ⟨hi, e2⟩ := ks_get e1
  refine ⟨i, hi, ?_, e2.symm⟩
  unfold nxM
  rw [e]
theorem nx_iff {A : ZA.Aut} {m : Nat → Int} {s t : Nat} (hs : s < A.n) (ht : t < A.n) : nxM A m s = nxM A m t ↔ ZA.keyOf A m s = ZA.keyOf A m t := by
  rw [← kS_iff]
  refine ⟨fun h => ?_, fun h => by unfold nxM; rw [h]⟩
  obtain ⟨i, _, e1, e2⟩ := nx_at (m := m) hs
  obtain ⟨j, _, e3, e4⟩ := nx_at (m := m) ht
  have : i = j := by omega
  rw [← e2, this, e4]
/-- the marks that are told: a list of them, each once -/
structure Kinds (A : ZA.Aut) (m : Nat → Int) (F : List Int) : Prop where
  nd : F.Nodup
  from_ : ∀ x ∈ F, ∃ s, s < A.n ∧ m s = x
def tab (A : ZA.Aut) (m : Nat → Int) : List (NestedKey × V) := zipR (ksOf A m)
theorem tab_len {A : ZA.Aut} {m : Nat → Int} : (tab A m).length ≤ A.n := Nat.le_trans (zipR_len _) (by simp [ksOf])
theorem tab_pos {A : ZA.Aut} {m : Nat → Int} (h : 0 < A.n) : 0 < (tab A m).length := by
  have := (zipR_keys _ _).mpr (ks_mem (m := m) h)
  obtain ⟨p, hp, _⟩ := List.mem_map.mp this
  exact List.length_pos_of_mem hp
/-- the kinds of the next marks: as many as the table's keys -/
theorem kinds_next {A : ZA.Aut} {m : Nat → Int} : ∃ F, Kinds A (nxM A m) F ∧ F.length = (tab A m).length := by
  refine ⟨(tab A m).map fun p => match val (tab A m) p.1 with | some (.int i) => i | _ => 0, ⟨?_, fun x hx => ?_⟩, List.length_map ..⟩
  · have key : ∀ p ∈ tab A m, ∃ s, s < A.n ∧ p.1 = kS A m s ∧ (match val (tab A m) p.1 with | some (.int i) => i | _ => 0) = nxM A m s := fun p hp => by
      have h1 := (zipR_keys (ksOf A m) p.1).mp (List.mem_map.mpr ⟨p, hp, rfl⟩)
      obtain ⟨s, hs⟩ := List.mem_iff_getElem?.mp h1
      obtain ⟨hs2, e⟩ := ks_get hs
      exact ⟨s, hs2, e, by rw [e]; rfl⟩
    refine List.pairwise_iff_getElem.mpr fun i j hi hj hij e => ?_
    rw [List.length_map] at hi hj
    rw [List.getElem_map, List.getElem_map] at e
    obtain ⟨s, hs, e1, e2⟩ := key _ (List.getElem_mem hi)
    obtain ⟨t, ht, e3, e4⟩ := key _ (List.getElem_mem hj)
    rw [e2, e4, nx_iff hs ht, ← kS_iff, ← e1, ← e3] at e
    have nd := zipR_nodup (ksOf A m)
    have := (List.pairwise_iff_getElem.mp nd) i j (by rw [List.length_map]; exact hi) (by rw [List.length_map]; exact hj) hij
    rw [List.getElem_map, List.getElem_map] at this
    exact this e
  · obtain ⟨p, hp, rfl⟩ := List.mem_map.mp hx
    have h1 := (zipR_keys (ksOf A m) p.1).mp (List.mem_map.mpr ⟨p, hp, rfl⟩)
    obtain ⟨s, hs⟩ := List.mem_iff_getElem?.mp h1
    obtain ⟨hs2, e⟩ := ks_get hs
    exact ⟨s, hs2, by rw [e]; rfl⟩
theorem gK {A : ZA.Aut} {m : Nat → Int} {s : Nat} (h : s < A.n) : ZA.keyOf A m s ∈ (tab A m).map fun p => unK p.1 := by
  have := (zipR_keys _ _).mpr (ks_mem (m := m) h)
  obtain ⟨p, hp, e⟩ := List.mem_map.mp this
  exact List.mem_map.mpr ⟨p, hp, by rw [e, unK_kS]⟩
theorem kinds_up {A : ZA.Aut} {m : Nat → Int} {F : List Int} (k : Kinds A m F) : F.length ≤ (tab A m).length := by
  have := ZA.kinds_le (n := A.n) (f := m) (g := ZA.keyOf A m) (F := F) (G := (tab A m).map fun p => unK p.1) k.nd k.from_ (fun s hs => gK hs) (fun s t _ _ e => ZA.key_mark e)
  rw [List.length_map] at this
  exact this
theorem kinds_done {A : ZA.Aut} {m : Nat → Int} {F : List Int} (k : Kinds A m F) (ok : A.Ok) (r : ZA.Rough A m) (h : (tab A m).length = F.length) : ZA.Marks A m :=
  ZA.rough_count (G := (tab A m).map fun p => unK p.1) ok r k.nd k.from_ (fun s hs => gK hs) (by rw [List.length_map, h]; exact Nat.le_refl _)
theorem lay_same {H : Hp} {ts : List Addr} {rs : List (List V)} {l : Addr} {o : HO} (tn : ∀ t ∈ ts, H t = none) (ln : H l = none) : Same H (upd (layR H ts rs) l o) := fun b u e => by
  rw [upd_ne (ne_of_none e ln), layR_out fun m => by rw [tn b m] at e; cases e]
  exact e
theorem lay_at {H : Hp} {ts : List Addr} {rs : List (List V)} {l : Addr} {o : HO} {j : Nat} {t : Addr} {r : List V} (nd : ts.Nodup) (hl : l ∉ ts) (e1 : ts[j]? = some t) (e2 : rs[j]? = some r) : upd (layR H ts rs) l o t = some (.tup r) := by
  have hm := List.mem_of_getElem? e1
  have ne : t ≠ l := fun z => hl (by rw [← z]; exact hm)
  rw [upd_ne ne]
  exact layR_at nd e1 e2
theorem turnR_at {n j : Nat} {xs : List (List V)} (h : j < n) : (turnR n xs)[j]? = some (xs.filterMap fun x => x[j]?) := by simp [turnR, h]
theorem col_map {α : Type} {xs : List α} {f : α → List V} {g : α → V} {j : Nat} (h : ∀ x ∈ xs, (f x)[j]? = some (g x)) : (xs.map f).filterMap (fun x => x[j]?) = xs.map g := by
  induction xs with
  | nil => rfl
  | cons x xs ih =>
    rw [List.map_cons, List.filterMap_cons, h x (List.mem_cons_self ..), ih fun y m => h y (List.mem_cons_of_mem _ m)]
    rfl
theorem seqs_rwA {K : PySem.W.Frag} {H : Hp} {n : Nat} {vs : List V} {rs : List (List Nat)} (h : RwA H vs rs) (hw : ∀ r ∈ rs, r.length = n) : SeqsV K H n vs (rs.map fun r => r.map nV) := by
  induction h with
  | nil => exact .nil
  | cons h t ih => exact .cons h.any (by rw [List.length_map]; exact hw _ (List.mem_cons_self ..)) (ih fun r m => hw r (List.mem_cons_of_mem _ m))
theorem seqs_get {K : PySem.W.Frag} {H : Hp} {n : Nat} : ∀ {vs : List V} {xs : List (List V)}, vs.length = xs.length → (∀ (i : Nat) v x, vs[i]? = some v → xs[i]? = some x → ∃ a, v = V.ref a ∧ (SqL K H a x ∨ SqT K H a x) ∧ x.length = n) → SeqsV K H n vs xs
  | [], [], _, _ => .nil
  | v :: vs, x :: xs, l, h => by
    obtain ⟨a, rfl, e, ln⟩ := h 0 v x rfl rfl
    exact .cons e ln (seqs_get (by simpa using l) fun i v x a b => h (i + 1) v x a b)
theorem keys_get {H : Hp} : ∀ {vs : List V} {ks : List NestedKey}, vs.length = ks.length → (∀ (i : Nat) v k, vs[i]? = some v → ks[i]? = some k → NV H k v ∧ k.depth ≤ 8) → KeysV H vs ks
  | [], [], _, _ => .nil
  | v :: vs, k :: ks, l, h => by
    obtain ⟨a, b⟩ := h 0 v k rfl rfl
    exact .cons a b (keys_get (by simpa using l) fun i v x a b => h (i + 1) v x a b)
theorem dep_nums : ∀ is : List Int, NestedKey.depthAll (is.map .num) = 0
  | [] => rfl
  | i :: is => by
    rw [List.map_cons, NestedKey.depthAll, dep_nums is]
    rfl
theorem dep_kS {A : ZA.Aut} {m : Nat → Int} {s : Nat} : (kS A m s).depth ≤ 8 := by
  unfold kS
  rw [NestedKey.depth, dep_nums]
  decide
theorem nvs_get {H : Hp} : ∀ {is : List Int} {vs : List V}, vs.length = is.length → (∀ (j : Nat) v i, vs[j]? = some v → is[j]? = some i → NV H (.num i) v) → NVs H (is.map .num) vs
  | [], [], _, _ => .nil
  | i :: is, v :: vs, l, h => .cons (h 0 v i rfl rfl) (nvs_get (by simpa using l) fun j v i a b => h (j + 1) v i a b)
end Z
namespace ZA
theorem sum_sub {f : Nat → Nat} : ∀ {L M : List Nat}, L.Nodup → (∀ x ∈ L, x ∈ M) → (L.map f).sum ≤ (M.map f).sum
  | [], _, _, _ => Nat.zero_le _
  | x :: L, M, nd, h => by
    have hx := h x (List.mem_cons_self ..)
    have p := List.perm_cons_erase hx
    have e : (M.map f).sum = f x + ((M.erase x).map f).sum := by
      have := (p.map f).sum_nat
      rw [this, List.map_cons, List.sum_cons]
    rw [List.map_cons, List.sum_cons, e]
    have := sum_sub (f := f) (L := L) (M := M.erase x) (List.nodup_cons.mp nd).2 fun y hy => by
      have ne : y ≠ x := fun z => (List.nodup_cons.mp nd).1 (z ▸ hy)
      exact (List.mem_erase_of_ne ne).mpr (h y (List.mem_cons_of_mem _ hy))
    omega
def cnt (A : Aut) (t s : Nat) : Nat := (A.rows.getD s []).count t
def tot (A : Aut) (t : Nat) : Nat := A.rows.flatten.count t
theorem tot_eq {A : Aut} {t : Nat} : tot A t = ((List.range A.n).map (cnt A t)).sum := by
  unfold tot
  rw [List.count_flatten]
  congr 1
  refine List.ext_getElem (by simp [Aut.n]) fun j a b => ?_
  have hj : j < A.rows.length := by simpa using a
  rw [List.getElem_map, List.getElem_map, List.getElem_range]
  unfold cnt
  rw [List.getD_eq_getElem?_getD, List.getElem?_eq_getElem hj]
  rfl
theorem cnt_le {A : Aut} {t : Nat} {L : List Nat} (nd : L.Nodup) (h : ∀ x ∈ L, x < A.n) : (L.map (cnt A t)).sum ≤ tot A t := by
  rw [tot_eq]
  exact sum_sub nd fun x hx => List.mem_range.mpr (h x hx)
structure Ah (A : Aut) (E : List Nat) (at_ : Nat) (part : List Nat) (many : Nat → Int) : Prop where
  first : E[0]? = some 0
  nd : E.Nodup
  inn : ∀ x ∈ E, x < A.n
  many_ : ∀ t, many t = (tot A t : Int) - (((E.take at_).map (cnt A t)).sum : Nat) - (part.count t : Nat)
  le : ∀ t ∈ E, many t ≤ 0
  pred : ∀ (j t : Nat), E[j]? = some t → ∀ (s : Nat) (r : List Nat), A.rows[s]? = some r → t ∈ r → s ∈ E.take j
section
variable {A : Aut} {E part : List Nat} {at_ : Nat} {many : Nat → Int}
theorem ah_start (hA : 0 < A.n) (h0 : ∀ r ∈ A.rows, 0 ∉ r) : Ah A [0] 0 [] (fun t => (tot A t : Int)) where
  first := rfl
  nd := by simp
  inn := fun x hx => by rw [List.mem_singleton.mp hx]; exact hA
  many_ := fun t => by simp
  le := fun t ht => by
    rw [List.mem_singleton.mp ht]
    have : tot A 0 = 0 := by
      unfold tot
      rw [List.count_eq_zero]
      intro z
      obtain ⟨r, hr, h⟩ := List.mem_flatten.mp z
      exact h0 r hr h
    simp [this]
  pred := fun j t e s r hs ht => by
    have hj : j = 0 := by
      have := (List.getElem?_eq_some_iff.mp e).1
      simpa using this
    subst hj
    cases (Option.some.inj e)
    exact absurd ht (h0 r (List.mem_of_getElem? hs))
theorem cnt_row {s t : Nat} {r : List Nat} (h : A.rows[s]? = some r) : cnt A t s = r.count t := by
  unfold cnt
  rw [List.getD_eq_getElem?_getD, h]
  rfl
theorem take_succ_sum {s t : Nat} (hs : E[at_]? = some s) : ((E.take (at_ + 1)).map (cnt A t)).sum = ((E.take at_).map (cnt A t)).sum + cnt A t s := by
  rw [List.take_add_one, hs, List.map_append, List.sum_append]
  simp
theorem count_next {r : List Nat} {c t : Nat} (h : r[c]? = some t) : (r.take c).count t + 1 ≤ r.count t := by
  have e : r.take (c + 1) = r.take c ++ [t] := by rw [List.take_add_one, h]; rfl
  have : (r.take (c + 1)).count t ≤ r.count t := (List.take_sublist _ _).count_le _
  rw [e, List.count_append] at this
  simpa using this
theorem nd_take (nd : E.Nodup) (k : Nat) : (E.take k).Nodup := nd.sublist (List.take_sublist _ _)
/-- the next letter of the state under way takes one off -/
theorem Ah.dec {s t c : Nat} {r : List Nat} (h : Ah A E at_ (r.take c) many) (hs : E[at_]? = some s) (hr : A.rows[s]? = some r) (ht : r[c]? = some t) :
    (many t - 1 ≠ 0 → Ah A E at_ (r.take (c + 1)) (fun u => if u = t then many t - 1 else many u)) ∧ (t < A.n → many t - 1 = 0 → Ah A (E ++ [t]) at_ (r.take (c + 1)) (fun u => if u = t then many t - 1 else many u)) := by
  have e1 : r.take (c + 1) = r.take c ++ [t] := by rw [List.take_add_one, ht]; rfl
  have hat : at_ < E.length := (List.getElem?_eq_some_iff.mp hs).1
  have hin := h.inn s (List.mem_of_getElem? hs)
  have cn := count_next ht
  have manyU : ∀ u, (fun u => if u = t then many t - 1 else many u) u = (tot A u : Int) - (((E.take at_).map (cnt A u)).sum : Nat) - ((r.take (c + 1)).count u : Nat) := fun u => by
    show (if u = t then many t - 1 else many u) = _
    rw [e1, List.count_append]
    by_cases z : u = t
    · rw [if_pos z, z, h.many_ t]
      simp
      omega
    · have : [t].count u = 0 := by
        rw [List.count_eq_zero]
        intro q
        exact z (List.mem_singleton.mp q)
      rw [if_neg z, h.many_ u, this]
      simp
  have tk : ((E.take (at_ + 1)).map (cnt A t)).sum ≤ tot A t := cnt_le (nd_take h.nd _) fun x hx => h.inn x (List.mem_of_mem_take hx)
  rw [take_succ_sum hs, cnt_row hr] at tk
  have pos : 1 ≤ many t := by
    rw [h.many_ t]
    omega
  refine ⟨fun hn => ⟨h.first, h.nd, h.inn, manyU, fun u hu => ?_, h.pred⟩, fun htn hz => ?_⟩
  · show (if u = t then many t - 1 else many u) ≤ 0
    have := h.le u hu
    split
    · rename_i z
      rw [z] at this
      omega
    · exact this
  · have tE : t ∉ E := fun z => by
      have := h.le t z
      omega
    refine ⟨by rw [List.getElem?_append_left (by omega)]; exact h.first, List.nodup_append.mpr ⟨h.nd, by simp, fun a ha b hb e => tE (by rw [List.mem_singleton.mp hb] at e; exact e ▸ ha)⟩, fun x hx => ?_, fun u => ?_, fun u hu => ?_, fun j u hj s' r' hs' hu => ?_⟩
    · rcases List.mem_append.mp hx with z | z
      · exact h.inn x z
      · rw [List.mem_singleton.mp z]
        exact htn
    · rw [List.take_append_of_le_length (by omega)]
      exact manyU u
    · show (if u = t then many t - 1 else many u) ≤ 0
      split
      · omega
      · rename_i z
        rcases List.mem_append.mp hu with q | q
        · exact h.le u q
        · exact absurd (List.mem_singleton.mp q) z
    · rcases Nat.lt_or_ge j E.length with lt | ge
      · rw [List.getElem?_append_left lt] at hj
        rw [List.take_append_of_le_length (by omega)]
        exact h.pred j u hj s' r' hs' hu
      · have hj2 : j = E.length := by
          have := (List.getElem?_eq_some_iff.mp hj).1
          simp at this
          omega
        subst hj2
        rw [List.getElem?_append_right (Nat.le_refl _), Nat.sub_self] at hj
        cases (Option.some.inj hj)
        rw [List.take_left]
        refine Classical.byContradiction fun no => ?_
        have sn : s' < A.n := (List.getElem?_eq_some_iff.mp hs').1
        have no2 : s' ∉ E.take (at_ + 1) := fun z => no (List.mem_of_mem_take z)
        have big := cnt_le (A := A) (t := t) (L := s' :: E.take (at_ + 1)) (List.nodup_cons.mpr ⟨no2, nd_take h.nd _⟩) fun x hx => by
          rcases List.mem_cons.mp hx with z | z
          · rw [z]; exact sn
          · exact h.inn x (List.mem_of_mem_take z)
        rw [List.map_cons, List.sum_cons, take_succ_sum hs, cnt_row hr, cnt_row hs'] at big
        have := List.count_pos_iff.mpr hu
        have m0 := h.many_ t
        omega
theorem Ah.turn {s : Nat} {r : List Nat} (h : Ah A E at_ r many) (hs : E[at_]? = some s) (hr : A.rows[s]? = some r) : Ah A E (at_ + 1) [] many where
  first := h.first
  nd := h.nd
  inn := h.inn
  many_ := fun t => by
    rw [h.many_ t, take_succ_sum hs, cnt_row hr]
    simp
    omega
  le := h.le
  pred := h.pred
theorem Ah.few (h : Ah A E at_ part many) : E.length ≤ A.n := by
  have := nodup_le (l := E) (m := List.range A.n) h.nd fun x hx => List.mem_range.mpr (h.inn x hx)
  rwa [List.length_range] at this
end
/-- states, none of them on a cycle or behind one, each ahead of those to which it leads -/
structure Early (A : Aut) (E : List Nat) : Prop where
  nd : E.Nodup
  inn : ∀ x ∈ E, x < A.n
  shut : ∀ (s : Nat) (r : List Nat), A.rows[s]? = some r → s ∉ E → ∀ t ∈ r, t ∉ E
  ord : ∀ (i j s t : Nat) (r : List Nat), E[i]? = some s → E[j]? = some t → A.rows[s]? = some r → t ∈ r → i < j
theorem early_nil {A : Aut} : Early A [] := ⟨List.nodup_nil, fun x h => by simp at h, fun _ _ _ _ _ _ h => by simp at h, fun i j s t r h => by simp at h⟩
theorem Ah.done {A : Aut} {E : List Nat} {at_ : Nat} {many : Nat → Int} (h : Ah A E at_ [] many) : Early A E where
  nd := h.nd
  inn := h.inn
  shut := fun s r hs no t ht z => by
    obtain ⟨j, hj⟩ := List.mem_iff_getElem?.mp z
    exact no (List.mem_of_mem_take (h.pred j t hj s r hs ht))
  ord := fun i j s t r hi hj hs ht => by
    have := h.pred j t hj s r hs ht
    obtain ⟨k, hk⟩ := List.mem_iff_getElem?.mp this
    have hk2 : k < j := by
      have := (List.getElem?_eq_some_iff.mp hk).1
      rw [List.length_take] at this
      omega
    rw [List.getElem?_take_of_lt hk2] at hk
    have hi' := (List.getElem?_eq_some_iff.mp hi)
    have hk' := (List.getElem?_eq_some_iff.mp hk)
    have : i = k := by
      refine Classical.byContradiction fun ne => ?_
      rcases Nat.lt_or_gt_of_ne ne with lt | lt
      · exact (List.pairwise_iff_getElem.mp h.nd) i k hi'.1 hk'.1 lt (hi'.2.trans hk'.2.symm)
      · exact (List.pairwise_iff_getElem.mp h.nd) k i hk'.1 hi'.1 lt (hk'.2.trans hi'.2.symm)
    omega
end ZA
set_option maxHeartbeats 4000000
namespace Z
open PySem PySem.Spec PyProof.Rows L2 MixD ZpR
def keptOf (n : Nat) (E : List Nat) : List Nat := (List.range n).filter fun s => decide (s ∉ E)
theorem kept_mem {n : Nat} {E : List Nat} {s : Nat} : s ∈ keptOf n E ↔ s < n ∧ s ∉ E := by simp [keptOf]
theorem kept_nd {n : Nat} {E : List Nat} : (keptOf n E).Nodup := List.nodup_range.sublist (List.filter_sublist)
/-- the place of a state among those that are kept -/
def posOf (n : Nat) (E : List Nat) (s : Nat) : Nat := if s ∈ keptOf n E then (keptOf n E).idxOf s else 0
theorem pos_at {n : Nat} {E : List Nat} {i s : Nat} (e : (keptOf n E)[i]? = some s) : posOf n E s = i := by
  obtain ⟨h, e2⟩ := List.getElem?_eq_some_iff.mp e
  have m := List.mem_of_getElem? e
  unfold posOf
  rw [if_pos m, ← e2]
  exact kept_nd.idxOf_getElem i h
theorem pos_get {n : Nat} {E : List Nat} {s : Nat} (h : s ∈ keptOf n E) : (keptOf n E)[posOf n E s]? = some s := by
  obtain ⟨i, hi⟩ := List.mem_iff_getElem?.mp h
  rw [pos_at hi]
  exact hi
theorem kept_few {n : Nat} {E : List Nat} (nd : E.Nodup) (inn : ∀ x ∈ E, x < n) : (keptOf n E).length + E.length ≤ n := by
  have := ZA.nodup_le (l := keptOf n E ++ E) (m := List.range n) (List.nodup_append.mpr ⟨kept_nd, nd, fun a ha b hb e => (kept_mem.mp ha).2 (e ▸ hb)⟩) fun x hx => by
    rcases List.mem_append.mp hx with h | h
    · exact List.mem_range.mpr (kept_mem.mp h).1
    · exact List.mem_range.mpr (inn x h)
  rw [List.length_append, List.length_range] at this
  exact this
section
variable {A : ZA.Aut} {E : List Nat}
/-- the machine of the kept states -/
def subA (A : ZA.Aut) (E : List Nat) : ZA.Aut := ⟨A.w, (keptOf A.n E).map fun s => (A.rows.getD s []).map (posOf A.n E), (keptOf A.n E).map A.endAt⟩
theorem sub_n : (subA A E).n = (keptOf A.n E).length := by simp [subA, ZA.Aut.n]
theorem row_get {s : Nat} (h : s < A.n) : A.rows[s]? = some (A.rows.getD s []) := by
  rw [List.getD_eq_getElem?_getD, List.getElem?_eq_getElem h]
  rfl
theorem end_get {s : Nat} (ok : A.Ok) (h : s < A.n) : A.ends[s]? = some (A.endAt s) := by
  show A.ends[s]? = some (A.ends.getD s false)
  rw [List.getD_eq_getElem?_getD, List.getElem?_eq_getElem (by rw [ok.ends]; exact h)]
  rfl
theorem row_to {s c : Nat} (ok : A.Ok) (h : s < A.n) (hc : c < A.w) : (A.rows.getD s [])[c]? = some (A.to s c) := by
  have e := row_get h
  have l := ok.wide s _ e
  obtain ⟨t, ht⟩ : ∃ t, (A.rows.getD s [])[c]? = some t := ⟨_, List.getElem?_eq_getElem (by omega)⟩
  rw [ht, ZA.to_at e ht]
theorem kept_to (ok : A.Ok) (h : ZA.Early A E) {s c : Nat} (hs : s ∈ keptOf A.n E) (hc : c < A.w) : A.to s c ∈ keptOf A.n E := by
  obtain ⟨h1, h2⟩ := kept_mem.mp hs
  exact kept_mem.mpr ⟨ZA.to_lt ok h1 hc, h.shut s _ (row_get h1) h2 _ (List.mem_of_getElem? (row_to ok h1 hc))⟩
theorem sub_row {i s : Nat} (e : (keptOf A.n E)[i]? = some s) : (subA A E).rows[i]? = some ((A.rows.getD s []).map (posOf A.n E)) := by
  show ((keptOf A.n E).map _)[i]? = _
  rw [List.getElem?_map, e]
  rfl
theorem sub_get {i : Nat} {r : List Nat} (e : (subA A E).rows[i]? = some r) : ∃ s, (keptOf A.n E)[i]? = some s ∧ r = (A.rows.getD s []).map (posOf A.n E) := by
  have e : ((keptOf A.n E).map fun s => (A.rows.getD s []).map (posOf A.n E))[i]? = some r := e
  rw [List.getElem?_map] at e
  obtain ⟨s, h, e2⟩ := Option.map_eq_some_iff.mp e
  exact ⟨s, h, e2.symm⟩
theorem sub_ok (ok : A.Ok) (h : ZA.Early A E) : (subA A E).Ok where
  w1 := ok.w1
  ends := by simp [subA]
  wide := fun i r e => by
    obtain ⟨s, hs, rfl⟩ := sub_get e
    rw [List.length_map]
    exact ok.wide s _ (row_get (kept_mem.mp (List.mem_of_getElem? hs)).1)
  inn := fun i r t e ht => by
    obtain ⟨s, hs, rfl⟩ := sub_get e
    obtain ⟨u, hu, rfl⟩ := List.mem_map.mp ht
    have hk := List.mem_of_getElem? hs
    have hn := (kept_mem.mp hk).1
    have um : u ∈ keptOf A.n E := kept_mem.mpr ⟨ok.inn s _ u (row_get hn) hu, h.shut s _ (row_get hn) (kept_mem.mp hk).2 u hu⟩
    have := (List.getElem?_eq_some_iff.mp (pos_get um)).1
    show _ < (subA A E).n
    rw [sub_n]
    exact this
theorem sub_pos (ok : A.Ok) (h : ZA.Early A E) (hE : E ≠ []) : 0 < (keptOf A.n E).length := by
  have hl : 0 < E.length := List.length_pos_iff.mpr hE
  obtain ⟨s, hs⟩ : ∃ s, E[E.length - 1]? = some s := ⟨_, List.getElem?_eq_getElem (by omega)⟩
  have hn := h.inn s (List.mem_of_getElem? hs)
  have ht := row_to ok hn (c := 0) ok.w1
  have : A.to s 0 ∈ keptOf A.n E := by
    refine kept_mem.mpr ⟨ZA.to_lt ok hn ok.w1, fun z => ?_⟩
    obtain ⟨j, hj⟩ := List.mem_iff_getElem?.mp z
    have := h.ord _ j s _ _ hs hj (row_get hn) (List.mem_of_getElem? ht)
    have := (List.getElem?_eq_some_iff.mp hj).1
    omega
  exact List.length_pos_of_mem this
theorem sub_to (ok : A.Ok) {i s c : Nat} (e : (keptOf A.n E)[i]? = some s) (hc : c < A.w) : (subA A E).to i c = posOf A.n E (A.to s c) := by
  refine ZA.to_at (sub_row e) ?_
  rw [List.getElem?_map, row_to ok (kept_mem.mp (List.mem_of_getElem? e)).1 hc]
  rfl
theorem sub_end {i s : Nat} (e : (keptOf A.n E)[i]? = some s) : (subA A E).endAt i = A.endAt s := by
  show ((keptOf A.n E).map A.endAt).getD i false = _
  rw [List.getD_eq_getElem?_getD, List.getElem?_map, e]
  rfl
theorem sub_reads (ok : A.Ok) (h : ZA.Early A E) {i s : Nat} (e : (keptOf A.n E)[i]? = some s) : (subA A E).lang i = A.lang s := by
  have at_ : ∀ i, i < (subA A E).n → (keptOf A.n E)[i]? = some ((keptOf A.n E).getD i 0) := fun i hi => by
    rw [sub_n] at hi
    rw [List.getD_eq_getElem?_getD, List.getElem?_eq_getElem hi]
    rfl
  have hi : i < (subA A E).n := by
    rw [sub_n]
    exact (List.getElem?_eq_some_iff.mp e).1
  have es : (keptOf A.n E).getD i 0 = s := by
    rw [List.getD_eq_getElem?_getD, e]
    rfl
  funext u
  have := ZA.sub_lang ok (sub_ok ok h) rfl (at_ := fun i => (keptOf A.n E).getD i 0) (fun j hj => sub_end (at_ j hj)) (fun j c hj hc => by
    rw [sub_to ok (at_ j hj) hc]
    show (keptOf A.n E).getD (posOf A.n E _) 0 = _
    rw [List.getD_eq_getElem?_getD, pos_get (kept_to ok h (List.mem_of_getElem? (at_ j hj)) hc)]
    rfl) u i hi
  rw [es] at this
  exact this
/-- marks of the part are marks of the kept states -/
theorem kept_on (ok : A.Ok) (h : ZA.Early A E) {m : Nat → Int} (mk : ZA.Marks (subA A E) m) : ZA.MarksOn A (fun s => s ∈ keptOf A.n E) (fun s => m (posOf A.n E s)) where
  inn := fun s hs => (kept_mem.mp hs).1
  go := fun s c hs hc => kept_to ok h hs hc
  iff := fun s t hs ht => by
    have e1 := pos_get hs
    have e2 := pos_get ht
    have l1 := (List.getElem?_eq_some_iff.mp e1).1
    have l2 := (List.getElem?_eq_some_iff.mp e2).1
    rw [← sub_reads ok h e1, ← sub_reads ok h e2]
    exact mk _ _ (by rw [sub_n]; exact l1) (by rw [sub_n]; exact l2)
end
def eI (A : ZA.Aut) (s : Nat) : Int := if A.endAt s = true then 1 else 0
def kL (A : ZA.Aut) (m : Nat → Int) (s : Nat) : List Int := eI A s :: (List.range A.w).map fun c => m (A.to s c)
def kE (A : ZA.Aut) (m : Nat → Int) (s : Nat) : NestedKey := .tup ((kL A m s).map .num)
theorem eI_iff {A : ZA.Aut} {s t : Nat} : eI A s = eI A t ↔ A.endAt s = A.endAt t := by
  unfold eI
  cases A.endAt s <;> cases A.endAt t <;> simp
theorem kE_iff {A : ZA.Aut} {m : Nat → Int} {s t : Nat} : kE A m s = kE A m t ↔ A.endAt s = A.endAt t ∧ ∀ c, c < A.w → m (A.to s c) = m (A.to t c) := by
  have e : kE A m s = kE A m t ↔ kL A m s = kL A m t := by
    refine ⟨fun h => ?_, fun h => by unfold kE; rw [h]⟩
    unfold kE at h
    injection h with h
    exact num_inj h
  rw [e]
  unfold kL
  rw [List.cons.injEq, eI_iff]
  refine and_congr_right fun _ => ⟨fun h c hc => ?_, fun h => List.map_congr_left fun c hc => h c (List.mem_range.mp hc)⟩
  have := congrArg (fun l => l[c]?) h
  simpa [hc] using this
theorem dep_kE {A : ZA.Aut} {m : Nat → Int} {s : Nat} : (kE A m s).depth ≤ 8 := by
  unfold kE
  rw [NestedKey.depth, dep_nums]
  decide
theorem kE_congr {A : ZA.Aut} {m m' : Nat → Int} {s : Nat} (h : ∀ c, c < A.w → m' (A.to s c) = m (A.to s c)) : kE A m' s = kE A m s := by
  unfold kE kL
  rw [List.map_congr_left fun c hc => h c (List.mem_range.mp hc)]
/-- what stands of the table: the states of S are told -/
structure Tb (A : ZA.Aut) (S : Nat → Prop) (m : Nat → Int) (T : List (NestedKey × V)) : Prop where
  val : ∀ s, S s → MixD.val T (kE A m s) = some (.int (m s))
  keys : ∀ q ∈ T.map (·.1), ∃ s, S s ∧ kE A m s = q
section
variable {A : ZA.Aut} {S : Nat → Prop} {m : Nat → Int} {T : List (NestedKey × V)} {x : Nat}
theorem on_key (ok : A.Ok) (o : ZA.MarksOn A S m) {s t : Nat} (hs : S s) (ht : S t) : m s = m t ↔ kE A m s = kE A m t := by
  rw [kE_iff, o.iff s t hs ht]
  exact ⟨fun e => ⟨ZA.lang_end e, fun c hc => (o.iff _ _ (o.go s c hs hc) (o.go t c ht hc)).mpr (ZA.lang_to ok ok rfl e hc)⟩, fun ⟨e0, e1⟩ => ZA.lang_ext ok ok rfl e0 fun c hc => (o.iff _ _ (o.go s c hs hc) (o.go t c ht hc)).mp (e1 c hc)⟩
/-- a state of S is put -/
theorem Tb.put {S' : Nat → Prop} (h : Tb A S' m T) (hS : ∀ s, S' s → S s) (ok : A.Ok) (o : ZA.MarksOn A S m) (hx : S x) : Tb A (fun s => S' s ∨ s = x) m (MixD.put T (kE A m x) (.int (m x))) where
  val := fun s hs => by
    rw [val_put]
    by_cases e : kE A m s = kE A m x
    · rw [if_pos e]
      have : m s = m x := by
        rcases hs with hs | rfl
        · exact (on_key ok o (hS s hs) hx).mpr e
        · rfl
      rw [this]
    · rw [if_neg e]
      rcases hs with hs | rfl
      · exact h.val s hs
      · exact absurd rfl e
  keys := fun q hq => by
    rcases put_keys.mp hq with e | e
    · exact ⟨x, .inr rfl, e.symm⟩
    · obtain ⟨s, hs, e2⟩ := h.keys q e
      exact ⟨s, .inl hs, e2⟩
def setM (m : Nat → Int) (x : Nat) (v : Int) : Nat → Int := fun s => if s = x then v else m s
/-- a new state: its mark is told by the table, or new -/
theorem Tb.step (h : Tb A S m T) (ok : A.Ok) (o : ZA.MarksOn A S m) (neg : ∀ s, S s → 0 ≤ m s ∨ ∃ y, S y ∧ m s = -1 - (y : Int)) (hx : x < A.n) (nx : ¬ S x) (hs : ∀ c, c < A.w → S (A.to x c)) :
    (∀ v, MixD.val T (kE A m x) = some v → ∃ i, v = .int i ∧ ZA.MarksOn A (fun s => S s ∨ s = x) (setM m x i) ∧ Tb A (fun s => S s ∨ s = x) (setM m x i) T ∧ (0 ≤ i ∨ ∃ y, S y ∧ i = -1 - (y : Int))) ∧
    (MixD.val T (kE A m x) = none → ZA.MarksOn A (fun s => S s ∨ s = x) (setM m x (-1 - (x : Int))) ∧ Tb A (fun s => S s ∨ s = x) (setM m x (-1 - (x : Int))) (MixD.put T (kE A m x) (.int (-1 - (x : Int))))) := by
  have ne : ∀ s, S s → s ≠ x := fun s hS e => nx (e ▸ hS)
  have same : ∀ i s, S s → setM m x i s = m s := fun i s hS => if_neg (ne s hS)
  have kS' : ∀ i s, S s → kE A (setM m x i) s = kE A m s := fun i s hS => kE_congr fun c hc => same i _ (o.go s c hS hc)
  have kX : ∀ i, kE A (setM m x i) x = kE A m x := fun i => kE_congr fun c hc => same i _ (hs c hc)
  have mx : ∀ i, setM m x i x = i := fun i => if_pos rfl
  refine ⟨fun v ev => ?_, fun ev => ?_⟩
  · have hm : kE A m x ∈ T.map (·.1) := Classical.byContradiction fun z => by
      rw [val_none z] at ev
      cases ev
    obtain ⟨s, hS, e⟩ := h.keys _ hm
    have e2 := h.val s hS
    rw [e, ev] at e2
    cases e2
    refine ⟨m s, rfl, o.add ok hx nx hs (same _) fun t hT => ?_, ⟨fun t hT => ?_, fun q hq => ?_⟩, neg s hS⟩
    · rw [mx, on_key ok o hS hT, e]
      exact kE_iff
    · rcases hT with hT | rfl
      · rw [kS' _ t hT, same _ t hT]
        exact h.val t hT
      · rw [kX, mx]
        exact ev
    · obtain ⟨t, hT, e3⟩ := h.keys q hq
      exact ⟨t, .inl hT, by rw [kS' _ t hT]; exact e3⟩
  · refine ⟨o.add ok hx nx hs (same _) fun t hT => ?_, ⟨fun t hT => ?_, fun q hq => ?_⟩⟩
    · rw [mx]
      constructor
      · intro z
        rcases neg t hT with k | ⟨y, hy, k⟩
        · omega
        · have : y = x := by omega
          exact absurd (this ▸ hy) nx
      · intro z
        have := h.val t hT
        rw [← kE_iff.mpr z, ev] at this
        cases this
    · rcases hT with hT | rfl
      · have nk : kE A m t ≠ kE A m x := fun z => by
          have := h.val t hT
          rw [z, ev] at this
          cases this
        rw [kS' _ t hT, same _ t hT, val_put, if_neg nk]
        exact h.val t hT
      · rw [kX, mx, val_put, if_pos rfl]
    · rcases put_keys.mp hq with e | e
      · exact ⟨x, .inr rfl, by rw [kX]; exact e.symm⟩
      · obtain ⟨t, hT, e3⟩ := h.keys q e
        exact ⟨t, .inl hT, by rw [kS' _ t hT]; exact e3⟩
end
end Z
set_option maxHeartbeats 4000000
namespace Z
open PySem PySem.Spec PyProof.Rows L2
open Sem (wp)
open AutoSeq1 (wpAny_loadPart')
/-- the tuple's iterator, and the enumerate behind it -/
abbrev tupIt (l : Addr) : Obj := { cls := .type "tuple_iterator", data := .fields #[.ref l, .int 0 0] }
abbrev enuOb (N : Addr) : Obj := { cls := .type "enumerate", data := .fields #[.none, .bool false, .ref N, rawInt 0, .none, .none] }
abbrev enuHeap (h : Heap) (l : Addr) : Heap := (h.push (tupIt l)).push (enuOb h.objs.size)
section
variable {h : Heap} {l : Addr}
theorem enu_old {b : Addr} {o : Obj} (e : h.get? b = some o) : (enuHeap h l).get? b = some o := Heap.get?_push_of_some _ (Heap.get?_push_of_some _ e)
theorem enu_it : (enuHeap h l).IsTupleIter h.objs.size l 0 := ⟨tupIt l, Heap.get?_push_of_some _ (Heap.get?_push_size h rfl), rfl, rfl⟩
theorem enu_en : IsEnum (enuHeap h l) (h.objs.size + 1) h.objs.size 0 .none := by
  have z := Heap.get?_push_size (h.push (tupIt l)) (o := enuOb h.objs.size) rfl
  rwa [Heap.size_push] at z
end
theorem new_enu {l : Addr} {its : Array Value} {n : Nat} {dd : Option Addr} {sl : Array (Option Value)} :
    Meets (Builtin.«enumerate.__new__» ⟨[.type "enumerate", .ref l], []⟩) fun _ R s => s.heap.get? l = some ⟨.type "tuple", dd, .seq its n, sl⟩ ∧ R (.ok (.ret (.ref (s.heap.push (tupIt l)).objs.size))) { s with heap := enuHeap s.heap l } := by
  refine .of_wp fun prog w A R s z => ?_
  cases s with
  | mk hp g d tk os =>
    have there := z.1
    have isT : Heap.IsTuple (Shared.heap ⟨hp, g, d, tk, os⟩) l its := ⟨_, there, rfl, n, rfl⟩
    have sub := sub_enumerate
    wp_walk using wpAny_loadPart' there
    refine wpAny_stack_any fun st => wpAny_pure ?_
    split
    case h_1 c _ _ _ _ _ => cases (c == Value.type "enumerate") <;> (wp_walk using wpAny_loadPart' there, wpAny_pyIter_tuple isT; exact ⟨_, rfl, z.2⟩)
    case h_2 => wp_walk using wpAny_loadPart' there, wpAny_pyIter_tuple isT; exact ⟨_, rfl, z.2⟩
theorem call_enu {prog : PySem.Program} {w : World} {A : Around} {E : Value → Shared → Prop} {s : Shared} {l : Addr} {its : Array Value} {Q : Value → Shared → Prop} (isT : s.heap.IsTuple l its) (k : Q (.ref (s.heap.objs.size + 1)) { s with heap := enuHeap s.heap l }) :
    wpAny (model prog w) A (call (.type "enumerate") [.ref l]) Q E s := by
  obtain ⟨⟨oc, od, dt, sl⟩, there, cls, n, dat⟩ := isT
  cases (show oc = .type "tuple" from cls)
  cases (show dt = .seq its n from dat)
  refine callType_new F.called_enumerate (by decide) (F.typeCall_enumerate_1 _) (F.newCall_enumerate_1 _) (fun obj => F.args_object_init_2 obj _) F.entry_enumerate_new new_enu ⟨there, ?_⟩
  have N : (s.heap.push (tupIt l)).objs.size = s.heap.objs.size + 1 := Heap.size_push ..
  show _ ∧ _
  rw [N]
  exact ⟨⟨_, enu_en, rfl⟩, k⟩
/-- the tuple at a, each item in a new pair -/
def Iet (K : PySem.W.Frag) (a : Addr) : It where
  go i H := ∃ (xs : List V) (x : V), SqT K H a xs ∧ xs[i]? = some x
  yld i H v H' := ∃ T x, v = .ref T ∧ H T = none ∧ H' = upd H T (.tup [.int (i : Nat), x]) ∧ ∀ xs, SqT K H a xs → xs[i]? = some x
  stop i H := ∃ xs : List V, SqT K H a xs ∧ xs.length = i
/-- how the two stand ahead of turn i -/
def EnAt (a e it : Addr) (i : Nat) (h : Heap) : Prop := (∃ old, IsEnum h e it (i : Int) old) ∧ h.IsTupleIter it a i ∧ e ≠ it
section
variable {a e it : Addr} {i : Nat} {h h' : Heap}
theorem EnAt.objs (z : EnAt a e it i h) : (∃ o, h.get? e = some o ∧ ∀ v, o.data ≠ .cell v) ∧ ∃ o, h.get? it = some o ∧ ∀ v, o.data ≠ .cell v := by
  obtain ⟨⟨old, z1⟩, ⟨o, z2, _, z3⟩, _⟩ := z
  exact ⟨⟨_, z1, fun v y => Data.noConfusion y⟩, o, z2, fun v y => Data.noConfusion (z3.symm.trans y)⟩
theorem EnAt.move (z : EnAt a e it i h) (k : ∀ b, b = e ∨ b = it → ∀ o, h.get? b = some o → h'.get? b = some o) : EnAt a e it i h' := by
  obtain ⟨⟨old, z1⟩, z2, z3⟩ := z
  exact ⟨⟨old, k e (.inl rfl) _ z1⟩, z2.at (k it (.inr rfl)), z3⟩
/-- a tuple is neither of the two -/
theorem EnAt.other {its : Array Value} (z : EnAt a e it i h) (isT : h.IsTuple a its) : a ≠ e ∧ a ≠ it := by
  obtain ⟨⟨old, z1⟩, ⟨o, z2, z3, _⟩, _⟩ := z
  obtain ⟨u, y1, y2, _⟩ := isT
  refine ⟨fun eq => ?_, fun eq => ?_⟩
  · subst eq
    rw [z1] at y1
    cases y1
    exact absurd (Value.type.inj y2) (by decide)
  · subst eq
    rw [z2] at y1
    cases y1
    exact absurd (Value.type.inj (z3.symm.trans y2)) (by decide)
end
theorem two_mem {b e it : Addr} (h : b ∈ [e, it]) : b = e ∨ b = it := by simpa using h
theorem turn_enu {P : Program} {w : World} {K : PySem.W.Frag} {elts : List Expr} {kk : Nat} {tpos : Pos} (a e it : Addr) : Turn P w K (.Tuple elts kk tpos) (Iet K a) [e, it] e (EnAt a e it) := by
  refine ⟨List.mem_cons_self, fun i h z b hb => ?_, fun i h h' z k => z.move fun b hb o q => k b (by rcases hb with rfl | rfl <;> simp) o q, ?_, ?_, fun A i s Q E z q => ?_⟩
  · rcases two_mem hb with rfl | rfl
    · exact z.objs.1
    · exact z.objs.2
  · rintro X rfl rfl rfl hc i pins s σ H E I aside z ⟨xs, x, hq, hx⟩
    obtain ⟨its, rv, isT, _⟩ := I.tuple hq
    have isT : s.heap.IsTuple a its.toArray := isT
    obtain ⟨u, hu, ru⟩ := rv.get hx
    obtain ⟨na, nt⟩ := z.other isT
    obtain ⟨⟨old, isE⟩, isI, net⟩ := id z
    have old_e := Heap.lt_size isE
    have old_it : it < s.heap.objs.size := by
      obtain ⟨o, q, _⟩ := isI
      exact Heap.lt_size q
    have drawn := Draws.tuple (prog := X.prog) (w := X.w) (A := X.A.in1) (show X.A.in1.handled = none from I.ok.hd hc) it a nt its.toArray
    have few : i < its.toArray.size := by simpa using (List.getElem?_eq_some_iff.mp hu).1
    refine wpAny_pyNext_enum_itemD drawn isE ⟨isI, isT⟩ few net (fun y => ?_) fun y h1 tk hy out st1 new1 _ kept1 => ?_
    · rcases (show e = it ∨ e = a by simpa using y) with y | y
      · exact net y
      · exact na y.symm
    obtain rfl : y = u := by
      have hy : its.toArray[i]? = some y := hy
      rw [List.getElem?_toArray, hu] at hy
      exact (Option.some.inj hy).symm
    refine ⟨_, rfl, wpAny_letOwnedTupleGo_enum (s := { s with heap := h1, toks := tk + 1 }) out fun h2 isE2 same2 => ?_⟩
    have pair : h2.get? s.heap.objs.size = some { cls := .type "tuple", data := .seq #[.int i tk, y] } := by rw [same2.2 _ (Nat.ne_of_gt old_e)]; exact new1
    have I2 : Inv X pins σ (upd H s.heap.objs.size (.tup [.int (i : Nat), x])) { s with heap := h2, toks := tk + 1 } := by
      refine I.turnedNew (ch := [e, it]) (fun b o nb q => ?_) aside (Nat.le_refl _) ⟨by show 2 ≤ sizeLine; decide, _, .cons ⟨tk, rfl⟩ (.cons ru .nil), _, pair, rfl, _, rfl⟩
      have n1 : b ≠ e := fun y => nb (by rw [y]; exact List.mem_cons_self)
      have n2 : b ≠ it := fun y => nb (by rw [y]; exact List.mem_cons_of_mem _ List.mem_cons_self)
      rw [same2.2 b n1]
      exact kept1 b o n1 n2 q
    refine ⟨.ref s.heap.objs.size, _, I2, rfl, ⟨_, x, rfl, I.hok.fresh (Nat.le_refl _), rfl, fun ys hy => I.tuple_inj hy hq ▸ hx⟩, ⟨⟨y, ?_⟩, st1.1.at fun o q => by rw [same2.2 it net.symm]; exact q, net⟩, fun b hb => ?_⟩
    · rw [Int.natCast_add, Int.natCast_one]
      exact isE2
    · have lt : b < s.heap.objs.size := by
        rcases two_mem hb with rfl | rfl
        · exact old_e
        · exact old_it
      rw [upd_ne (Nat.ne_of_lt lt)]
      exact (aside b hb).1
  · rintro X rfl rfl rfl hc i pins s σ H E I aside z ⟨xs, hq, hx⟩
    obtain ⟨its, rv, isT, _⟩ := I.tuple hq
    have isT : s.heap.IsTuple a its.toArray := isT
    have nt := (z.other isT).2
    obtain ⟨⟨old, isE⟩, isI, _⟩ := z
    have len := rv.length
    have end_ : its.toArray.size = i := by rw [List.size_toArray]; omega
    have drawn := Draws.tuple (prog := X.prog) (w := X.w) (A := X.A.in1) (show X.A.in1.handled = none from I.ok.hd hc) it a nt its.toArray
    rw [end_] at drawn
    obtain ⟨free, nl, nf, mine, cells, pinned⟩ := aside it (List.mem_cons_of_mem _ List.mem_cons_self)
    exact wpAny_pyNext_enum_endD drawn isE ⟨isI, isT⟩ fun h1 ext => ⟨rfl, I.turned (t' := s.toks) (fun b o nb q => ext b o nb q) free nl mine cells pinned⟩
  · obtain ⟨⟨old, isE⟩, _⟩ := z
    exact wpAny_pyIter_enum isE q
def iEnumT (K : PySem.W.Frag) (ta : TA) : TI := fun σ H R => ta σ H fun vs H1 => ∃ a xs, vs = [.ref a] ∧ SqT K H1 a xs ∧ R (Iet K a) H1
theorem pi_enumT {X : Cx} {e : Expr} {ta : TA} {p pos tpos : Pos} {elts : List Expr} {kk : Nat} (hg : Gl X "enumerate") (hm : X.mg "enumerate" = none) (ha : PA X [e] ta) (hs : starEach [e] X.env = [(false, eval e X.env)] := by rfl) :
    PI X (.Tuple elts kk tpos) (.Call (.Name "enumerate" p) [e] [] pos) (iEnumT X.K ta) where
  run pins s σ H R I h := by
    refine Call_ (ld_blt I hg hm boot_enumerate (PyProof.Rows.callWith_type1 (thn (ha.run pos pins s σ H _ I h) fun us s1 got => ?_) hs rfl))
    obtain ⟨vs, H1, I1, rel, a, xs, rfl, hq, q⟩ := got
    match us, rel with
    | [_], .cons rel .nil =>
      cases rel
      obtain ⟨its, _, isT, _⟩ := I1.tuple hq
      refine call_enu (show s1.heap.IsTuple a its.toArray from isT) (wpAny_pyIter_enum enu_en ?_)
      have I2 : Inv X pins σ H1 { s1 with heap := enuHeap s1.heap a } := I1.kept (t' := s1.toks) fun b o e => enu_old e
      refine ⟨_, [s1.heap.objs.size + 1, s1.heap.objs.size], _, _, H1, rfl, I2, turn_enu a _ s1.heap.objs.size, ⟨⟨_, enu_en⟩, enu_it, Nat.succ_ne_self _⟩, fun b hb => ?_, q⟩
      have ge : s1.heap.objs.size ≤ b := by
        rcases two_mem hb with rfl | rfl
        · exact Nat.le_succ _
        · exact Nat.le_refl _
      exact I1.fpOk ge (I1.hok.fresh ge)
theorem walk_enumT {K : PySem.W.Frag} {a : Addr} {xs : List V} : Walk (Iet K a) xs.length (fun H => SqT K H a xs) (YPair (fun i => some (.int (i : Nat))) (fun i => xs[i]?)) where
  goes i H lt q := ⟨xs, xs[i], q, List.getElem?_eq_getElem lt⟩
  stops H q := ⟨xs, q, rfl⟩
  yields i H v H' _ q := fun ⟨T, x, e1, e2, e3, e4⟩ => ⟨T, .int (i : Nat), x, e1, e2, e3, rfl, e4 xs q⟩
end Z
namespace ZA
/-- the least machine of a language -/
def Least (M : Aut) (L : List Nat → Bool) : Prop := ∃ C met, C.Ok ∧ 0 < C.n ∧ Told C M met ∧ ∀ u, C.lang 0 u = L u
section
variable {M N A B : Aut} {L : List Nat → Bool} {met : List Nat}
theorem Told.n (h : Told A M met) : M.n = met.length := h.len
theorem Told.pos (h : Told A M met) : 0 < M.n := by
  rw [h.n]
  exact (List.getElem?_eq_some_iff.mp h.zero).1
theorem Told.few (h : Told A M met) : M.n ≤ A.n := by
  rw [h.n]
  have nd : met.Nodup := by
    refine List.pairwise_iff_getElem.mpr fun i j hi hj hij e => ?_
    have := h.apart i j _ _ (List.getElem?_eq_getElem hi) (List.getElem?_eq_getElem hj) (by rw [e])
    omega
  have := nodup_le (l := met) (m := List.range A.n) nd fun x hx => by
    obtain ⟨i, hi⟩ := List.mem_iff_getElem?.mp hx
    exact List.mem_range.mpr (h.inn i x hi)
  rwa [List.length_range] at this
theorem Told.far (h : Told A M met) (ok : A.Ok) {i j : Nat} (hi : i < M.n) (hj : j < M.n) (e : M.lang i = M.lang j) : i = j := by
  rw [h.n] at hi hj
  have q1 := List.getElem?_eq_getElem hi
  have q2 := List.getElem?_eq_getElem hj
  refine h.apart i j _ _ q1 q2 (funext fun u => ?_)
  rw [← h.lang ok u i _ q1, ← h.lang ok u j _ q2, e]
theorem Least.ok (h : Least M L) : M.Ok := let ⟨_, _, a, _, t, _⟩ := h; t.ok a
theorem Least.pos (h : Least M L) : 0 < M.n := let ⟨_, _, _, _, t, _⟩ := h; t.pos
theorem Least.lang (h : Least M L) (u : List Nat) : M.lang 0 u = L u := let ⟨_, _, a, _, t, l⟩ := h; (t.lang a u 0 0 t.zero).trans (l u)
/-- states that read alike are one -/
def Apart (M : Aut) : Prop := ∀ i j, i < M.n → j < M.n → M.lang i = M.lang j → i = j
theorem Least.apart (h : Least M L) : Apart M := let ⟨_, _, a, _, t, _⟩ := h; fun _ _ hi hj e => t.far a hi hj e
theorem Least.same {L' : List Nat → Bool} (h : Least M L) (k : Least N L') (w : M.w = N.w) (e : ∀ u, L u = L' u) : M = N := by
  obtain ⟨C, m1, a1, _, t1, l1⟩ := h
  obtain ⟨D, m2, a2, _, t2, l2⟩ := k
  exact told_same a1 a2 t1 t2 (by rw [← t1.wd, ← t2.wd, w]) (funext fun u => by rw [l1, l2, e])
theorem Least.congr {L' : List Nat → Bool} (h : Least M L) (e : ∀ u, L u = L' u) : Least M L' := let ⟨C, m, a, b, t, l⟩ := h; ⟨C, m, a, b, t, fun u => (l u).trans (e u)⟩
theorem lang_cons (ok : A.Ok) {s c : Nat} (hc : c < A.w) (u : List Nat) : A.lang s (c :: u) = A.lang (A.to s c) u := congrFun (lang_nxt ok hc) u
/-- pairs that are met together are few if one of the two is told by the other and a third -/
theorem pairs_by {b : Aut} (okM : M.Ok) (okN : N.Ok) (okb : b.Ok) (w1 : M.w = N.w) (w2 : N.w = b.w) (ap : Apart M) (m0 : 0 < M.n) (n0 : 0 < N.n) (b0 : 0 < b.n) (kf : Bool → Bool → Bool) (h : ∀ u, M.lang 0 u = kf (N.lang 0 u) (b.lang 0 u)) :
    ∃ P : List (Nat × Nat), ((0, 0) ∈ P ∧ (∀ s t, (s, t) ∈ P → s < M.n ∧ t < N.n) ∧ ∀ s t, (s, t) ∈ P → ∀ c, c < M.w → (M.to s c, N.to t c) ∈ P) ∧ P.length ≤ N.n * b.n := by
  classical
  let g : Nat → Option (Nat × Nat) := fun q => if k : ∃ i, i < M.n ∧ ∀ u, M.lang i u = kf (N.lang (q / b.n) u) (b.lang (q % b.n) u) then some (Classical.choose k, q / b.n) else none
  have has : ∀ i s t, i < M.n → s < N.n → t < b.n → (∀ u, M.lang i u = kf (N.lang s u) (b.lang t u)) → (i, s) ∈ (List.range (N.n * b.n)).filterMap g := fun i s t hi hs ht e => by
    refine List.mem_filterMap.mpr ⟨s * b.n + t, List.mem_range.mpr (pair_lt hs ht), ?_⟩
    have e1 : (s * b.n + t) / b.n = s := by rw [Nat.mul_comm, Nat.mul_add_div (by omega), Nat.div_eq_of_lt ht, Nat.add_zero]
    have e2 : (s * b.n + t) % b.n = t := by rw [Nat.mul_comm, Nat.mul_add_mod, Nat.mod_eq_of_lt ht]
    have k : ∃ i, i < M.n ∧ ∀ u, M.lang i u = kf (N.lang ((s * b.n + t) / b.n) u) (b.lang ((s * b.n + t) % b.n) u) := ⟨i, hi, by rw [e1, e2]; exact e⟩
    have c := Classical.choose_spec k
    show (if k : _ then _ else _) = _
    rw [dif_pos k]
    have : Classical.choose k = i := ap _ _ c.1 hi (funext fun u => by rw [c.2 u, e1, e2, e u])
    rw [this, e1]
  have of : ∀ i s, (i, s) ∈ (List.range (N.n * b.n)).filterMap g → i < M.n ∧ s < N.n ∧ ∃ t, t < b.n ∧ ∀ u, M.lang i u = kf (N.lang s u) (b.lang t u) := fun i s hm => by
    obtain ⟨q, hq, e⟩ := List.mem_filterMap.mp hm
    rw [List.mem_range] at hq
    have e : (if k : ∃ i, i < M.n ∧ ∀ u, M.lang i u = kf (N.lang (q / b.n) u) (b.lang (q % b.n) u) then some (Classical.choose k, q / b.n) else none) = some (i, s) := e
    split at e
    · rename_i k
      have c := Classical.choose_spec k
      cases e
      exact ⟨c.1, (Nat.div_lt_iff_lt_mul b0).mpr hq, _, Nat.mod_lt _ b0, c.2⟩
    · cases e
  refine ⟨(List.range (N.n * b.n)).filterMap g, ⟨has 0 0 0 m0 n0 b0 h, fun s t hm => ⟨(of s t hm).1, (of s t hm).2.1⟩, fun s t hm c hc => ?_⟩, ?_⟩
  · obtain ⟨hi, hs, r, hr, e⟩ := of s t hm
    refine has _ _ (b.to r c) (to_lt okM hi hc) (to_lt okN hs (by omega)) (to_lt okb hr (by omega)) fun u => ?_
    rw [← lang_cons okM hc, ← lang_cons okN (by omega), ← lang_cons okb (by omega), e]
  · have := List.length_filterMap_le g (List.range (N.n * b.n))
    rwa [List.length_range] at this
/-- the machine of one state -/
def oneA (w : Nat) (e : Bool) : Aut := ⟨w, [List.replicate w 0], [e]⟩
theorem one_ok {w : Nat} {e : Bool} (h : 1 ≤ w) : (oneA w e).Ok where
  w1 := h
  ends := rfl
  wide := fun s r hr => by
    cases s with
    | zero => cases (Option.some.inj hr); exact List.length_replicate
    | succ s => simp [oneA] at hr
  inn := fun s r t hr ht => by
    cases s with
    | zero =>
      cases (Option.some.inj hr)
      rw [(List.mem_replicate.mp ht).2]
      exact Nat.zero_lt_one
    | succ s => simp [oneA] at hr
theorem one_lang {w : Nat} {e : Bool} (h : 1 ≤ w) : ∀ u, (oneA w e).lang 0 u = e
  | [] => rfl
  | c :: u => by
    have hc : c % w < w := Nat.mod_lt _ h
    have : (oneA w e).to 0 (c % w) = 0 := to_at (A := oneA w e) (r := List.replicate w 0) rfl (by rw [List.getElem?_replicate, if_pos hc])
    show (oneA w e).lang ((oneA w e).to 0 (c % w)) u = e
    rw [this]
    exact one_lang h u
/-- .. if the two read the same -/
theorem pairs_same (okM : M.Ok) (okN : N.Ok) (w1 : M.w = N.w) (ap : Apart M) (m0 : 0 < M.n) (n0 : 0 < N.n) (h : ∀ u, M.lang 0 u = N.lang 0 u) :
    ∃ P : List (Nat × Nat), ((0, 0) ∈ P ∧ (∀ s t, (s, t) ∈ P → s < M.n ∧ t < N.n) ∧ ∀ s t, (s, t) ∈ P → ∀ c, c < M.w → (M.to s c, N.to t c) ∈ P) ∧ P.length ≤ N.n := by
  have := pairs_by (b := oneA N.w false) okM okN (one_ok okN.w1) w1 rfl ap m0 n0 (Nat.zero_lt_one) (fun a _ => a) h
  have e : N.n * (oneA N.w false).n = N.n := Nat.mul_one _
  rwa [e] at this
end
end ZA
set_option maxHeartbeats 4000000
namespace K01
open PySem PySem.Spec PyProof.Rows L2 Z
structure Nb (mg : Str → Option Value) : Prop extends Bt mg where
  isi : mg "isinstance" = none
  range : mg "range" = none
  str : mg "str" = none
  bool : mg "bool" = none
  max : mg "max" = none
  min : mg "min" = none
  tuple : mg "tuple" = none
  all : mg "all" = none
  any : mg "any" = none
  set : mg "set" = none
  sorted : mg "sorted" = none
  enumerate : mg "enumerate" = none
  sum : mg "sum" = none
  zip : mg "zip" = none
  dict : mg "dict" = none
  reversed : mg "reversed" = none
theorem u9 {k : Nat} {A : Around} (h : Room k A) : A.units + 9 < cLine := by have := h.units; omega
theorem sz1 : 1 ≤ sizeLine := by show 1 ≤ sizeLine; decide
theorem sz2 : 2 ≤ sizeLine := by show 2 ≤ sizeLine; decide
/-- what is sure if the verdict is a or b -/
def verd (a b : Bool) : Int := if a = b then (if a = true then ZA.sIn else ZA.sOut) else 0
def spVerdict (K : PySem.W.Frag) : Sp := fun vs H Q _ => ∃ (p : Addr) (a b : Bool), vs = [.ref p] ∧ SqT K H p [.bl a, .bl b] ∧ Q (.int (verd a b)) H
section
variable {P : Program} {w : World} {K : PySem.W.Frag} {mg : Str → Option Value} {base : Heap}
theorem sc_verdict_of : FnScope ["pair"] ["pair"] (defScope s_verdict_of) := ⟨rfl, rfl, rfl, by decide +kernel, rfl, by decide +kernel, by decide +kernel⟩
theorem ok_verdict {f : Addr} {fd : FuncData} (F : FnP K "verdict_of" s_verdict_of f fd) (hi : ∃ t, mg "SURELY_IN" = some (.int (-1125899906842624) t)) (ho : ∃ t, mg "SURELY_OUT" = some (.int (-1099511627776) t)) : FnOk P w K mg base CX0 1 f fd ["pair"] (spVerdict K) := by
  refine F.ok sc_verdict_of (fun vs H Q E h => ?_) (fun cdv A outer s H vs Q E hr h => ?_)
  · obtain ⟨p, a, b, rfl, _⟩ := h
    rfl
  · obtain ⟨p, a, b, rfl, hp, k⟩ := h
    obtain ⟨tSURELY_IN, hSURELY_IN⟩ := hi
    obtain ⟨tSURELY_OUT, hSURELY_OUT⟩ := ho
    refine ⟨_, PSs.nox (pss_cons (ps_if (pt_cmpR (op_neD hr.units) (pe_ix (ix_anyK (K := K) rfl) (pv 0) pe_int (fun _ _ => rfl)) (pe_ix (ix_anyK (K := K) rfl) (pv 0) pe_int (fun _ _ => rfl)) (nomark _)) (pss_one (ps_ret pe_int)) pss_nil)
      (pss_one (ps_ret (pe_ifExp (pt_val (pe_ix (ix_anyK (K := K) rfl) (pv 0) pe_int (fun _ _ => rfl))) (pe_glob (v := .int (-1125899906842624)) rfl hSURELY_IN ⟨tSURELY_IN, rfl⟩) (pe_glob (v := .int (-1099511627776)) rfl hSURELY_OUT ⟨tSURELY_OUT, rfl⟩))))), ?_⟩
    refine ⟨_, rfl, p, _, _, _, rfl, rfl, .inr hp, at0, _, rfl, p, _, _, _, rfl, rfl, .inr hp, at1, .bool a, .bool b, .bl a, .bl b, rfl, rfl, ?_⟩
    cases a <;> cases b
    · exact ⟨_, rfl, if_no rfl (un_next ⟨_, rfl, p, _, _, _, rfl, rfl, .inr hp, at0, _, rfl, if_no rfl k⟩)⟩
    · exact ⟨_, rfl, if_yes rfl k⟩
    · exact ⟨_, rfl, if_yes rfl k⟩
    · exact ⟨_, rfl, if_no rfl (un_next ⟨_, rfl, p, _, _, _, rfl, rfl, .inr hp, at0, _, rfl, if_yes rfl k⟩)⟩
end
def stay (s : Nat) (r : List Nat) : Bool := r.all fun t => t == s
def setAt (A : ZA.Aut) (a b : Int) (s : Nat) : Int := if stay s (A.rows.getD s []) = true then (if A.endAt s = true then b else a) else 0
theorem map_set {n i : Nat} {f g : Nat → V} {v : V} (hi : i < n) (h1 : g i = v) (h2 : ∀ j, j ≠ i → g j = f j) : ((List.range n).map f).set i v = (List.range n).map g := by
  refine List.ext_getElem (by simp) fun j a b => ?_
  rw [List.getElem_set]
  by_cases e : i = j
  · subst e
    simp [h1]
  · rw [if_neg e]
    simp [h2 j (fun z => e z.symm)]
theorem rep_flat (n : Nat) (v : V) : (List.replicate n [v]).flatten = List.replicate n v := by
  induction n with
  | zero => rfl
  | succ n ih => rw [List.replicate_succ, List.flatten_cons, ih]; rfl
theorem range_at {n i : Nat} {f : Nat → V} (h : i < n) : ((List.range n).map f)[i]? = some (f i) := by simp [h]
theorem stay_iff {s : Nat} {r : List Nat} : stay s r = true ↔ ∀ t ∈ r, t = s := by simp [stay]
theorem stay_count {s : Nat} {r : List Nat} : stay s r = decide (((r.map fun (n : Nat) => (n : Int)).count (s : Int) : Nat) = r.length) := by
  have e : (r.map fun (n : Nat) => (n : Int)).count (s : Int) = r.count s := by
    induction r with
    | nil => rfl
    | cons x r ih =>
      rw [List.map_cons, List.count_cons, List.count_cons, ih]
      by_cases z : x = s
      · simp [z]
      · have : ¬ ((x : Int) = (s : Int)) := by omega
        simp [z, this]
  rw [e, Bool.eq_iff_iff, stay_iff, decide_eq_true_iff, List.count_eq_length]
  exact ⟨fun h t m => (h t m).symm, fun h t m => (h t m).symm⟩
def spSettled (K : PySem.W.Frag) : Sp := fun vs H Q _ => ∃ (r e u : Addr) (ws : List V) (A : ZA.Aut) (a b : Int), vs = [.ref r, .ref e, .ref u] ∧ H r = some (.tup ws) ∧ RwZ H ws A.rows ∧ H e = some (.tup (A.ends.map V.bl)) ∧ SqL K H u [.int a, .int b] ∧ A.Ok ∧ A.n ≤ 400 ∧ A.w ≤ 1000 ∧
  ∀ l H', Same H H' → H l = none → H' l = some (.lst ((List.range A.n).map fun s => .int (setAt A a b s))) → Q (.ref l) H'
section
variable {P : Program} {w : World} {K : PySem.W.Frag} {mg : Str → Option Value} {base : Heap}
theorem sc_settled : FnScope ["rows", "ends", "sure", "told", "state", "row"] ["rows", "ends", "sure"] (defScope s_settled) := ⟨rfl, rfl, rfl, by decide +kernel, rfl, by decide +kernel, by decide +kernel⟩
theorem ok_settled {f : Addr} {fd : FuncData} (F : FnP K "settled" s_settled f fd) (T : Nb mg) : FnOk P w K mg base CX0 1 f fd ["rows", "ends", "sure"] (spSettled K) := by
  refine F.ok sc_settled (fun vs H Q E h => ?_) (fun cdv A outer s H vs Q E hr h => ?_)
  · obtain ⟨r, e, u, ws, M, a, b, rfl, _⟩ := h
    rfl
  · obtain ⟨r, e, u, ws, M, a, b, rfl, hR, dR, hE, hSu, ok, hn, hw, k⟩ := h
    have lw : ws.length = M.n := by rw [dR.len]; rfl
    refine ⟨_, PSs.nox (pss_cons (ps_set (i := 3) sc_settled.nd rfl (Or.inl rfl) (pe_op op_rep (pe_lst (pa_cons pe_int pa_nil)) (pe_callB (call_lenA (K := K) rfl) (by rfl) T.len PySem.boot_len (pa_cons (pv 0) pa_nil))))
      (pss_cons (ps_for PassesOwn.never rfl (pi_enumT (by rfl) T.enumerate (pa_cons (pv 0) pa_nil)) (pg_tup (by rfl) (pgs_cons (pg_name (i := 4) sc_settled.nd rfl (.inl rfl)) (pgs_cons (pg_name (i := 5) sc_settled.nd rfl (.inl rfl)) pgs_nil))) (pss_one (ps_if (PW.pt (pw_and (pt_cmpR op_eq (pe_ix (ix_anyK (K := K) rfl) (pv 5) pe_int (fun _ _ => rfl)) (pv 4) (nomark _)) (pw_and1 (pt_cmpR op_eq (pe_bmz PySem.F.plainAttrs_tuple PySem.F.slot_tuple_count PySem.F.type_tuple_count (mt_tcountK (K := K) rfl) (pv 5) (pa_cons (pv 4) pa_nil)) (pe_callB (call_lenA (K := K) rfl) (by rfl) T.len PySem.boot_len (pa_cons (pv 5) pa_nil)) (nomark _))))) (pss_one (ps_asg (pe_ix (ix_listBK (K := K) rfl) (pv 2) (pe_ix (ix_anyK (K := K) rfl) (pv 1) (pv 4) (fun _ _ => rfl)) (fun _ _ => rfl)) (pg_sub (pv 3) (pv 4) set_list))) pss_nil)))
      (pss_one (ps_ret (pv 3))))), ?_⟩
    refine ⟨sz1, fun l hl => ⟨_, rfl, r, ws, rfl, .inr (SqT.of ((Same.new _ (Same.refl H) hl) _ _ hR)), l, _, _, rfl, rfl, upd_same, by omega, by omega, ?_, fun D hD => ?_⟩⟩
    · rw [Int.toNat_natCast]
      exact szM _ (by simp; omega)
    refine normG (σ' := [some (.ref r), some (.ref e), some (.ref u), some (.ref D), none, none]) rfl ?_
    have s1 : Same H (upd (upd H l (.lst [.int 0])) D (.lst (List.replicate ((ws.length : Nat) : Int).toNat [V.int 0]).flatten)) := Same.new _ (Same.new _ (Same.refl H) hl) hD
    refine ⟨_, rfl, r, ws, rfl, SqT.of (s1 _ _ hR), ?_⟩
    refine for_it (walk_enumT (K := K) (a := r) (xs := ws)) (fun i σ H' => ∃ (v4 v5 : Option V), σ = [some (.ref r), some (.ref e), some (.ref u), some (.ref D), v4, v5] ∧ H' D = some (.lst ((List.range M.n).map fun s => .int (if s < i then setAt M a b s else 0))) ∧ Same H H') ⟨_, _, rfl, ?_, s1⟩ (fun i σ H' _ z => by
      obtain ⟨_, _, _, _, s⟩ := z
      exact SqT.of (s _ _ hR)) ?_ ?_
    · rw [upd_same, Int.toNat_natCast, rep_flat, lw]
      congr 2
      refine List.ext_getElem (by simp) fun j h1 h2 => by simp
    · rintro i tv σ H1 H2 hi ⟨v4, v5, rfl, eD, s2⟩ ⟨U, x, y, rfl, hU, rfl, ex, ey⟩
      cases ex
      refine ⟨U, _, rfl, SqT.of upd_same, rfl, _, _, rfl, ?_⟩
      have nUD : U ≠ D := (ne_of_none eD hU).symm
      have s3 : Same H1 (upd H1 U (.tup [.int (i : Int), y])) := Same.new _ (Same.refl H1) hU
      have eD2 := s3 _ _ eD
      obtain ⟨H2, eH2⟩ : ∃ L, L = upd H1 U (.tup [.int (i : Int), y]) := ⟨_, rfl⟩
      rw [← eH2] at s3 eD2 ⊢
      refine normG (σ' := [some (.ref r), some (.ref e), some (.ref u), some (.ref D), some (.int (i : Int)), v5]) rfl ?_
      refine ⟨_, _, rfl, ?_⟩
      refine normG (σ' := [some (.ref r), some (.ref e), some (.ref u), some (.ref D), some (.int (i : Int)), some y]) rfl ?_
      refine ⟨rfl, ?_⟩
      try dsimp only
      obtain ⟨ya, row, rfl, hrow, hya⟩ := dR.at ey
      have s4 := s2.trans s3
      have rl := ok.wide i row hrow
      have hy2 := hya.same s4
      have hi2 : i < M.n := by omega
      obtain ⟨t0, row', rfl⟩ : ∃ t0 row', row = t0 :: row' := by
        cases row with
        | nil => have := ok.w1; simp at rl; omega
        | cons x l => exact ⟨x, l, rfl⟩
      have gd : M.rows.getD i [] = t0 :: row' := by rw [List.getD_eq_getElem?_getD, hrow]; rfl
      have fin : ∀ (o : Int) (H3 : Hp), o = setAt M a b i → H3 D = some (HO.lst (((List.range M.n).map fun s => V.int (if s < i then setAt M a b s else 0)).set i (.int o))) → H3 D = some (HO.lst ((List.range M.n).map fun s => V.int (if s < i + 1 then setAt M a b s else 0))) := fun o H3 eo h3 => by
        rw [h3, map_set hi2]
        · rw [if_pos (Nat.lt_succ_self i), eo]
        · intro j hj
          by_cases z : j < i
          · rw [if_pos z, if_pos (by omega)]
          · rw [if_neg z, if_neg (by omega)]
      have fin0 : setAt M a b i = 0 → H2 D = some (HO.lst ((List.range M.n).map fun s => V.int (if s < i + 1 then setAt M a b s else 0))) := fun e0 => by
        rw [eD2]
        congr 2
        refine List.map_congr_left fun j hj => ?_
        by_cases z : j < i
        · rw [if_pos z, if_pos (by omega)]
        · by_cases z2 : j = i
          · rw [if_neg z, if_pos (by omega), z2, e0]
          · rw [if_neg z, if_neg (by omega)]
      refine ⟨_, rfl, ya, _, 0, _, rfl, rfl, .inr (hy2.sqT (K := K)), at0, _, rfl, rfl, _, rfl, ite2 (fun z => ?_) (fun z => ?_)⟩
      · have z : t0 = i := by
          have := of_decide_eq_true z
          injection this with this
          omega
        subst z
        have ec : (t0 :: row').map nV = ((t0 :: row').map fun (n : Nat) => (n : Int)).map V.int := by rw [List.map_map]; rfl
        have hy3 := hy2
        rw [ec] at hy3
        refine ⟨_, rfl, ⟨ya, _, rfl, hy2⟩, ?_⟩
        refine ⟨_, rfl, ya, (t0 :: row').map fun (n : Nat) => (n : Int), t0, rfl, rfl, hy3.sqT, _, rfl, ya, _, rfl, .inr (hy2.sqT (K := K)), rfl, _, rfl, ?_⟩
        have en : ∀ b', M.ends[t0]? = some b' → M.endAt t0 = b' := fun b' e => by
          show M.ends.getD t0 false = b'
          rw [List.getD_eq_getElem?_getD, e]
          rfl
        obtain ⟨be, hbe⟩ : ∃ be, M.ends[t0]? = some be := ⟨_, List.getElem?_eq_getElem (by rw [ok.ends]; exact hi2)⟩
        have st := stay_count (s := t0) (r := t0 :: row')
        refine ite2 (fun z => ?_) (fun z => ?_)
        · have z1 : stay t0 (t0 :: row') = true := by
            rw [st]
            have := of_decide_eq_true z
            injection this with this
            rw [decide_eq_true_iff]
            rw [List.length_map] at this
            omega
          refine ⟨_, rfl, _, rfl, _, rfl, e, _, _, _, rfl, rfl, .inr (SqT.of (s4 _ _ hE)), atN (by rw [List.getElem?_map, hbe]; rfl), u, _, be, .int (if be = true then b else a), rfl, rfl, sqL_same hSu s4, (by cases be <;> rfl), ?_⟩
          refine ⟨_, rfl, _, rfl, D, _, _, _, rfl, rfl, eD2, ixN_at (by rw [List.length_map, List.length_range]; exact hi2), _, _, rfl, fin (if be = true then b else a) _ ?_ upd_same, ?_⟩
          · unfold setAt
            rw [gd, if_pos z1, en be hbe]
          · exact same_upd s4 (none_of hD)
        · refine un_next ⟨_, _, rfl, fin0 ?_, s4⟩
          unfold setAt
          rw [gd, st]
          refine if_neg fun z2 => z (decide_eq_true ?_)
          have := of_decide_eq_true z2
          rw [this, List.length_map]
      · refine if_no rfl (un_next ⟨_, _, rfl, fin0 ?_, s4⟩)
        unfold setAt
        rw [gd]
        refine if_neg fun z2 => z (decide_eq_true ?_)
        have := stay_iff.mp z2 t0 (List.mem_cons_self ..)
        rw [this]
        rfl
    · rintro σ H1 ⟨v4, v5, rfl, eD, s2⟩
      refine ⟨_, rfl, k _ _ s2 (none_of hD) ?_⟩
      rw [eD]
      congr 2
      refine List.map_congr_left fun j hj => ?_
      rw [if_pos (by rw [lw]; exact List.mem_range.mp hj)]
/-- numbers for the states -/
def nm (A : ZA.Aut) (a b f : Int) (s : Nat) : Int := ZA.num (setAt A a b s) (s * f)
def spNumbered (K : PySem.W.Frag) : Sp := fun vs H Q _ => ∃ (v : V) (u : Addr) (A : ZA.Aut) (a b f : Int), vs = [v, .int f, .ref u] ∧ MaT H v A ∧ SqL K H u [.int a, .int b] ∧ A.Ok ∧ 0 < A.n ∧ A.n ≤ 400 ∧ A.w ≤ 1000 ∧ 0 ≤ f ∧ f ≤ 1000 ∧
  ∀ t l ws H', Same H H' → H' t = some (.tup [.ref l, .int (nm A a b f 0)]) → H' l = some (.lst ws) → RwL H' ws (A.rows.map fun r => r.map fun s => .int (nm A a b f s)) → Q (.ref t) H'
theorem sc_numbered : FnScope ["machine", "factor", "sure", "rows", "ends", "verdicts", "numbers", "state", "verdict", "then", "row"] ["machine", "factor", "sure"] (defScope s_numbered) := ⟨rfl, rfl, rfl, by decide +kernel, rfl, by decide +kernel, by decide +kernel⟩
theorem ok_numbered {f : Addr} {fd : FuncData} (F : FnP K "numbered" s_numbered f fd) (T : Nb mg) (dSettled : Dn P w K mg base 1 "settled" ["rows", "ends", "sure"] (spSettled K)) : FnOk P w K mg base CX0 2 f fd ["machine", "factor", "sure"] (spNumbered K) := by
  refine F.ok sc_numbered (fun vs H Q E h => ?_) (fun cdv A outer s H vs Q E hr h => ?_)
  · obtain ⟨v, u, M, a, b, f, rfl, _⟩ := h
    rfl
  · obtain ⟨v, u, M, a, b, f, rfl, ⟨m, r, e, ws, rfl, hM, hR, hW, hE⟩, hSu, ok, n0, hn, hw, f0, f1, k⟩ := h
    refine ⟨_, PSs.nox (pss_cons (ps_asg (pv 0) (pg_tup (by rfl) (pgs_cons (pg_name (i := 3) sc_numbered.nd rfl (.inl rfl)) (pgs_cons (pg_name (i := 4) sc_numbered.nd rfl (.inl rfl)) pgs_nil))))
      (pss_cons (ps_set (i := 5) sc_numbered.nd rfl (Or.inl rfl) (pe_dn dSettled hr (pa_cons (pv 3) (pa_cons (pv 4) (pa_cons (pv 2) pa_nil)))))
      (pss_cons (ps_set (i := 6) sc_numbered.nd rfl (Or.inr rfl) (pe_lc (own := [("state", 7), ("verdict", 8)]) (tt := tYes) rfl sc_numbered.nd (pi_enum (by rfl) T.enumerate (pa_cons (pv 5) pa_nil)) (blkOk_by (N := ["machine", "factor", "sure", "rows", "ends", "verdicts", "numbers", "state", "verdict", "then", "row"]) (sc := defScope s_numbered) (by decide +kernel)) (fun _ _ _ _ _ => (pg_tupK (K := K) (n := 2) rfl rfl (pgs_cons (pg_name (i := 7) sc_numbered.nd rfl (.inl rfl)) (pgs_cons (pg_name (i := 8) sc_numbered.nd rfl (.inl rfl)) pgs_nil)))) (fun _ _ _ _ _ => pts_nil) (fun _ _ _ _ _ => (pe_orT (K := K) rfl (pv 8) (pe_one (pe_op op_mul (pv 7) (pv 1)))))))
      (pss_one (ps_ret (pe_tup (pa_cons (pe_lc (own := [("row", 10)]) (g := gName 10) (tt := tYes) rfl sc_numbered.nd (pi_anyK (K := K) rfl (pv 3)) (blkOk_by (N := ["machine", "factor", "sure", "rows", "ends", "verdicts", "numbers", "state", "verdict", "then", "row"]) (sc := defScope s_numbered) (by decide +kernel)) (fun _ _ _ _ _ => (pg_name (i := 10) sc_numbered.nd rfl (.inl rfl))) (fun _ _ _ _ _ => pts_nil) (fun _ _ _ _ _ => (pe_lc (own := [("then", 9)]) (g := gName 9) (tt := tYes) rfl sc_numbered.nd (pi_anyK (K := K) rfl (pv 10)) (blkOk_by (N := ["machine", "factor", "sure", "rows", "ends", "verdicts", "numbers", "state", "verdict", "then", "row"]) (by rfl)) (fun _ _ _ _ _ => (pg_name (i := 9) sc_numbered.nd rfl (.inl rfl))) (fun _ _ _ _ _ => pts_nil) (fun _ _ _ _ _ => (pe_ix (ix_anyK (K := K) rfl) (pv 6) (pv 9) (fun _ _ => rfl)))))) (pa_cons (pe_ix (ix_anyK (K := K) rfl) (pv 6) pe_int (fun _ _ => rfl)) pa_nil)))))))), ?_⟩
    refine ⟨_, rfl, m, _, rfl, SqT.of hM, rfl, _, _, rfl, _, _, rfl, rfl, ?_⟩
    refine norm (N := fun σ _ => _) (σ' := [some (.ref m), some (.int f), some (.ref u), some (.ref r), some (.ref e), none, none, none, none, none, none]) rfl ?_
    refine ⟨_, rfl, _, rfl, _, rfl, r, e, u, ws, M, a, b, rfl, hR, hW, hE, hSu, ok, hn, hw, fun l H2 s2 l0 h2 => ?_⟩
    refine normG (σ' := [some (.ref m), some (.int f), some (.ref u), some (.ref r), some (.ref e), some (.ref l), none, none, none, none, none]) rfl ?_
    refine ⟨_, rfl, l, _, rfl, SqL.of h2, fun D hD => ?_⟩
    refine lc_all (walk_enum (K := K) (a := l) (xs := (List.range M.n).map fun s => V.int (setAt M a b s))) hD (by simp; omega) (fun i y _ => y = V.int (nm M a b f i)) (fun _ _ _ _ _ h => h) (fun H s => SqL.of (s _ _ h2)) ?_ ?_
    · rintro i x H3 H4 R N zs hi s3 eD ⟨U, x, y, rfl, hU, rfl, ex, ey⟩ k3
      cases ex
      rw [List.length_map, List.length_range] at hi
      have ey : ((List.range M.n).map fun s => V.int (setAt M a b s))[i]? = some y := ey
      rw [range_at hi] at ey
      cases ey
      refine ⟨U, _, rfl, SqT.of upd_same, rfl, _, _, rfl, _, _, rfl, rfl, rfl, ?_⟩
      refine yes_to ?_
      have sU : Same H3 (upd H3 U (.tup [.int (i : Int), .int (setAt M a b i)])) := Same.new _ (Same.refl H3) hU
      refine ⟨_, rfl, setAt M a b i != 0, rfl, ite2 (fun z => k3 _ _ sU ?_) (fun z => ?_)⟩
      · have z : setAt M a b i ≠ 0 := by simpa using z
        show V.int _ = V.int _
        unfold nm ZA.num
        rw [if_pos z]
      · have z : setAt M a b i = 0 := by simpa using z
        refine ⟨_, rfl, _, rfl, _, _, rfl, rfl, .inl ⟨by omega, by omega⟩, k3 _ _ sU ?_⟩
        show V.int _ = V.int _
        unfold nm ZA.num
        rw [z]
        rfl
    · intro ys H3 ly py s3 eD
      rw [List.length_map, List.length_range] at ly
      have eys : ys = (List.range M.n).map fun s => V.int (nm M a b f s) := list_is ly py
      subst eys
      have s4 := s2.trans s3
      refine normG (σ' := [some (.ref m), some (.int f), some (.ref u), some (.ref r), some (.ref e), some (.ref l), some (.ref D), none, none, none, none]) rfl ?_
      refine any_var rfl (xs := ws) (.inr (.inl (s4 _ _ hR))) (fun J wk => ?_)
      intro D2 hD2
      have nD : D2 ≠ D := (ne_of_none eD hD2).symm
      refine lc_all wk hD2 (by rw [hW.len]; exact Nat.le_trans hn (by decide)) (fun i y H' => ∃ a' row, M.rows[i]? = some row ∧ y = V.ref a' ∧ a' ≠ D2 ∧ H' a' = some (.lst (row.map fun s => V.int (nm M a b f s)))) (fun i y H5 H6 k5 ⟨a', row, e1, e2, e3, e4⟩ => ⟨a', row, e1, e2, e3, k5 _ _ e3 e4⟩) (fun H5 s5 => by rw [s5 _ _ (s4 _ _ hR), s4 _ _ hR]) ?_ ?_
      · rintro i x H5 H6 R N zs hi s5 eD2 ⟨rfl, ex⟩ k5
        obtain ⟨ya, row, rfl, hrow, hya⟩ := hW.at ex
        refine ⟨rfl, yes_to ?_⟩
        refine any_var rfl (xs := row.map nV) (.inr (.inr (hya.same (s4.trans s5)))) (fun J2 wk2 => ?_)
        intro D3 hD3
        have n32 : D3 ≠ D2 := (ne_of_none eD2 hD3).symm
        have rw1 := ok.wide i row hrow
        refine lc_all wk2 hD3 (by rw [List.length_map]; omega) (fun i y _ => ∀ s, row[i]? = some s → y = V.int (nm M a b f s)) (fun _ _ _ _ _ h => h) (fun H8 s8 => by
          obtain ⟨o, _, eo⟩ := hya.same (s4.trans s5)
          rw [s8 _ _ eo, eo]) ?_ ?_
        · rintro j x H7 H8 R2 N2 zs2 hj s7 eD3 ⟨rfl, ex2⟩ k7
          obtain ⟨s, hs, rfl⟩ := map_at ex2
          have sn := ok.inn i row s hrow (List.mem_of_getElem? hs)
          have e7 := s7 _ _ (s5 _ _ eD)
          refine ⟨rfl, yes_to ⟨_, rfl, _, rfl, D, _, _, _, rfl, rfl, .inl (SqL.of e7), atN (range_at sn), k7 _ _ (Same.refl _) ?_⟩⟩
          intro s' hs'
          rw [hs] at hs'
          cases hs'
          rfl
        · intro ys2 H7 ly7 py7 s7 eD3
          rw [List.length_map] at ly7
          exact k5 _ _ s7 ⟨D3, row, hrow, rfl, n32, by rw [eD3, list_maps ly7 py7]⟩
      · intro ys H5 ly2 py2 s5 eD2
        have s6 := s4.trans s5
        refine ⟨_, rfl, D, _, _, _, rfl, rfl, .inl (SqL.of (s5 _ _ eD)), atN (range_at n0), sz2, fun t ht => ?_⟩
        refine k t D2 ys _ (same_new s6 ht) upd_same (same_new (Same.refl _) ht _ _ eD2) ?_
        refine (RwL.of (by rw [ly2, hW.len, List.length_map]) fun i v r ev er => ?_).same (same_new (Same.refl _) ht)
        obtain ⟨a', row, e1, rfl, e3, e4⟩ := py2 i v ev
        rw [List.getElem?_map, e1] at er
        cases er
        exact ⟨a', rfl, e4⟩
end
end K01
set_option maxHeartbeats 4000000
namespace K01
open PySem PySem.Spec PyProof.Rows L2 Z
def plE (m : Nat → Int) (met : List Nat) : List (NestedKey × V) := met.zipIdx.map fun p => (.num (m p.1), .int (p.2 : Nat))
theorem plE_len {m : Nat → Int} {met : List Nat} : (plE m met).length = met.length := by simp [plE]
theorem plE_at {m : Nat → Int} {met : List Nat} {i s : Nat} (e : met[i]? = some s) : (plE m met)[i]? = some (.num (m s), .int (i : Nat)) := by
  unfold plE
  rw [List.getElem?_map, List.getElem?_zipIdx, e]
  simp
theorem plE_nodup {m : Nat → Int} {met : List Nat} (h : ∀ (i j s t : Nat), met[i]? = some s → met[j]? = some t → m s = m t → i = j) : ((plE m met).map (·.1)).Nodup := by
  refine List.pairwise_iff_getElem.mpr fun i j hi hj hij e => ?_
  have li : i < met.length := by simpa [plE] using hi
  have lj : j < met.length := by simpa [plE] using hj
  have e1 := plE_at (m := m) (List.getElem?_eq_getElem li)
  have e2 := plE_at (m := m) (List.getElem?_eq_getElem lj)
  rw [List.getElem?_eq_getElem (by rw [plE_len]; exact li)] at e1
  rw [List.getElem?_eq_getElem (by rw [plE_len]; exact lj)] at e2
  rw [List.getElem_map, List.getElem_map, Option.some.inj e1, Option.some.inj e2] at e
  injection e with e
  have := h i j _ _ (List.getElem?_eq_getElem li) (List.getElem?_eq_getElem lj) e
  omega
theorem plE_val {m : Nat → Int} {met : List Nat} (h : ∀ (i j s t : Nat), met[i]? = some s → met[j]? = some t → m s = m t → i = j) {i s : Nat} (e : met[i]? = some s) : MixD.val (plE m met) (.num (m s)) = some (.int (i : Nat)) := MixD.val_at (plE_nodup h) (plE_at e)
theorem plE_no {m : Nat → Int} {met : List Nat} {x : Int} (h : ∀ (i s : Nat), met[i]? = some s → m s ≠ x) : NestedKey.num x ∉ (plE m met).map (·.1) := fun z => by
  unfold plE at z
  rw [List.map_map] at z
  obtain ⟨⟨s, i⟩, hp, e⟩ := List.mem_map.mp z
  injection e with e
  rw [List.mem_zipIdx_iff_getElem?] at hp
  exact h i s hp e
theorem plE_put {m : Nat → Int} {met : List Nat} {s : Nat} (h : ∀ (i t : Nat), met[i]? = some t → m t ≠ m s) : MixD.put (plE m met) (.num (m s)) (.int (met.length : Nat)) = plE m (met ++ [s]) := by
  unfold MixD.put
  rw [if_neg (plE_no h)]
  unfold plE
  rw [List.zipIdx_append, List.map_append]
  simp
theorem dep_num {i : Int} : (NestedKey.num i).depth ≤ 8 := by show 0 ≤ 8; decide
/-- frozen things stand -/
def FK (H H' : Hp) : Prop := ∀ a o u, H a = some (.frz o u) → H' a = some (.frz o u)
theorem FK.of {H H' : Hp} (s : Same H H') : FK H H' := fun a o u e => s _ _ e
theorem fk_upd {H : Hp} {D : Addr} {o u : HO} (e : H D = some o) (n : ∀ p q, o ≠ .frz p q) : FK H (upd H D u) := fun a p q ea => by
  rw [upd_ne fun z => ?_]
  · exact ea
  · rw [z, e] at ea
    exact n _ _ (Option.some.inj ea)
theorem fk_updL {H : Hp} {D : Addr} {xs : List V} {u : HO} (e : H D = some (.lst xs)) : FK H (upd H D u) := fk_upd e fun _ _ z => by cases z
theorem fk_updX {H : Hp} {D : Addr} {es : List DictEntry} {u : HO} (e : H D = some (MixD.mixO D es)) : FK H (upd H D u) := fk_upd e fun _ _ z => by unfold MixD.mixO at z; cases z
theorem ts_updX {H : Hp} {D : Addr} {es : List DictEntry} {u : HO} (e : H D = some (MixD.mixO D es)) : TSame H (upd H D u) := TSame.updO e fun _ z => by unfold MixD.mixO at z; cases z
theorem FK.trans {H H1 H2 : Hp} (a : FK H H1) (b : FK H1 H2) : FK H H2 := fun c o u e => b _ _ _ (a _ _ _ e)
theorem fz_fk {H H' : Hp} {a : Addr} {xs : List V} (h : Fz H a xs) (k : FK H H') : Fz H' a xs := let ⟨o, d, e⟩ := h; ⟨o, d, k _ _ _ e⟩
theorem rwZ_fk {H H' : Hp} {vs : List V} {rs : List (List Nat)} (h : RwZ H vs rs) (k : FK H H') : RwZ H' vs rs := by
  induction h with
  | nil => exact .nil
  | cons h t ih => exact .cons (fz_fk h k) ih
theorem xd_obj {w : World} {H : Hp} {d : Addr} {xs : List (NestedKey × V)} (x : MixD.XD w H d xs) : ∃ es, H d = some (MixD.mixO d es) := let ⟨_, _, _, es, e, _⟩ := x; ⟨es, e⟩
def spInOrder : Sp := fun vs H Q _ => ∃ (r e k : Addr) (A : ZA.Aut) (ms : List Int), vs = [.ref r, .ref e, .ref k] ∧ RowsAt H r A.rows ∧ EndsAt H e A.ends ∧ Sq H k (ms.map V.int) ∧ ms.length = A.n ∧ ZA.Marks A (fun s => ms.getD s 0) ∧ A.Ok ∧ 0 < A.n ∧ A.n ≤ 400 ∧ A.w ≤ 1000 ∧
  ∀ v H' M met, Same H H' → MaT H' v M → ZA.Told A M met → Q v H'
section
variable {P : Program} {w : World} {K : PySem.W.Frag} {mg : Str → Option Value} {base : Heap}
theorem sc_in_order : FnScope ["rows", "ends", "marks", "place", "met", "told", "at", "row", "then", "mark", "state"] ["rows", "ends", "marks"] (defScope s_in_order) := ⟨rfl, rfl, rfl, by decide +kernel, rfl, by decide +kernel, by decide +kernel⟩
theorem ok_inOrder {f : Addr} {fd : FuncData} (F : FnP K "in_order" s_in_order f fd) (T : Nb mg) : FnOk P w K mg base CX0 1 f fd ["rows", "ends", "marks"] spInOrder := by
  refine F.ok sc_in_order (fun vs H Q E h => ?_) (fun cdv A outer s H vs Q E hr h => ?_)
  · obtain ⟨r, e, k, M, ms, rfl, _⟩ := h
    rfl
  · obtain ⟨r, e, k, M, ms, rfl, ⟨rvs, hR, hW⟩, hE, hK, lm, mk, ok, n0, hn, hw, q⟩ := h
    have hu9 := u9 hr
    refine ⟨_, PSs.nox (pss_cons (ps_set (i := 3) sc_in_order.nd rfl (Or.inl rfl) (MixD.pe_xdispW (w := w) rfl hu9 (pe_ix (ix_anyK (K := K) rfl) (pv 2) pe_int (fun _ _ => rfl)) pe_int))
      (pss_cons (ps_set (i := 4) sc_in_order.nd rfl (Or.inl rfl) (pe_lst (pa_cons pe_int pa_nil)))
      (pss_cons (ps_set (i := 5) sc_in_order.nd rfl (Or.inl rfl) (pe_lst pa_nil))
      (pss_cons (ps_set (i := 6) sc_in_order.nd rfl (Or.inl rfl) pe_int)
      (pss_cons (ps_while PassesOwn.never (pt_cmpR op_lt (pv 6) (pe_callB (call_lenA (K := K) rfl) (by rfl) T.len PySem.boot_len (pa_cons (pv 4) pa_nil)) (nomark _)) (pss_cons (ps_set (i := 7) sc_in_order.nd rfl (Or.inl rfl) (pe_lst pa_nil))
      (pss_cons (ps_for PassesOwn.never rfl (pi_anyK (K := K) rfl (pe_ix (ix_anyK (K := K) rfl) (pv 0) (pe_ix (ix_anyK (K := K) rfl) (pv 4) (pv 6) (fun _ _ => rfl)) (fun _ _ => rfl))) (pg_name (i := 8) sc_in_order.nd rfl (.inl rfl)) (pss_cons (ps_set (i := 9) sc_in_order.nd rfl (Or.inl rfl) (pe_ix (ix_anyK (K := K) rfl) (pv 2) (pv 8) (fun _ _ => rfl)))
      (pss_cons (ps_if (pt_cmp (MixD.pc_xnotinW (w := w) rfl hu9 (pv 9) (pv 3))) (pss_cons (MixD.ps_xput hu9 (pv 3) (pv 9) (pe_callB (call_lenA (K := K) rfl) (by rfl) T.len PySem.boot_len (pa_cons (pv 4) pa_nil)) rfl)
      (pss_one (ps_expr (pe_bm PySem.F.plainAttrs_list PySem.F.slot_list_append PySem.F.type_list_append mt_append (pv 4) (pa_cons (pv 8) pa_nil))))) pss_nil)
      (pss_one (ps_expr (pe_bm PySem.F.plainAttrs_list PySem.F.slot_list_append PySem.F.type_list_append mt_append (pv 7) (pa_cons (MixD.pe_xgetW (w := w) rfl hu9 (pv 3) (pv 9) (fun _ _ => rfl)) pa_nil)))))))
      (pss_cons (ps_expr (pe_bm PySem.F.plainAttrs_list PySem.F.slot_list_append PySem.F.type_list_append mt_append (pv 5) (pa_cons (pe_callTy (call_tupleZ (K := K) rfl) (by rfl) T.tuple (by decide +kernel) (pa_cons (pv 7) pa_nil)) pa_nil)))
      (pss_one (ps_aug (i := 6) sc_in_order.nd rfl (Or.inl rfl) pe_int ip_add))))))
      (pss_one (ps_ret (pe_tup (pa_cons (pe_callTy call_tuple_of (by rfl) T.tuple (by decide +kernel) (pa_cons (pv 5) pa_nil)) (pa_cons (pe_callTy call_tuple_of (by rfl) T.tuple (by decide +kernel) (pa_cons (pe_lc (own := [("state", 10)]) (g := gName 10) (tt := tYes) rfl sc_in_order.nd (pi_anyK (K := K) rfl (pv 4)) (blkOk_by (N := ["rows", "ends", "marks", "place", "met", "told", "at", "row", "then", "mark", "state"]) (sc := defScope s_in_order) (by decide +kernel)) (fun _ _ _ _ _ => (pg_name (i := 10) sc_in_order.nd rfl (.inl rfl))) (fun _ _ _ _ _ => pts_nil) (fun _ _ _ _ _ => (pe_ix (ix_anyK (K := K) rfl) (pv 1) (pv 10) (fun _ _ => rfl)))) pa_nil)) pa_nil)))))))))), ?_⟩
    obtain ⟨m, em⟩ : ∃ m : Nat → Int, m = fun s => ms.getD s 0 := ⟨_, rfl⟩
    rw [← em] at mk
    have mat : ∀ s, s < M.n → ms[s]? = some (m s) := fun s hs => by
      rw [em]
      show ms[s]? = some (ms.getD s 0)
      rw [List.getD_eq_getElem?_getD, List.getElem?_eq_getElem (by omega)]
      rfl
    have mV : ∀ s, s < M.n → (ms.map V.int)[s]? = some (.int (m s)) := fun s hs => by
      rw [List.getElem?_map, mat s hs]
      rfl
    refine fun D hD => ?_
    have s0 : Same H (upd H D (MixD.mixO D [])) := same_new (Same.refl H) hD
    refine ⟨_, rfl, k, _, 0, _, rfl, rfl, (hK.same s0).any, atN (mV 0 n0), upd_same, .num (m 0), .int _, dep_num, fun es x1 => ?_⟩
    have s1 : Same H (upd (upd H D (MixD.mixO D [])) D (MixD.mixO D es)) := same_upd s0 hD
    obtain ⟨H1, eH1⟩ : ∃ X, X = upd (upd H D (MixD.mixO D [])) D (MixD.mixO D es) := ⟨_, rfl⟩
    rw [← eH1] at x1 s1 ⊢
    refine normG (σ' := [some (.ref r), some (.ref e), some (.ref k), some (.ref D), none, none, none, none, none, none, none]) rfl ?_
    refine ⟨sz1, fun E hEn => ?_⟩
    refine normG (σ' := [some (.ref r), some (.ref e), some (.ref k), some (.ref D), some (.ref E), none, none, none, none, none, none]) rfl ?_
    refine ⟨Nat.zero_le _, fun G hG => ?_⟩
    refine normG (σ' := [some (.ref r), some (.ref e), some (.ref k), some (.ref D), some (.ref E), some (.ref G), none, none, none, none, none]) rfl ?_
    dsimp only
    refine normG (σ' := [some (.ref r), some (.ref e), some (.ref k), some (.ref D), some (.ref E), some (.ref G), some (.int 0), none, none, none, none]) rfl ?_
    have nGE : G ≠ E := none_ne hG
    obtain ⟨es0, hD1⟩ := xd_obj x1
    have nED : E ≠ D := (ne_of_none hD1 hEn).symm
    have nGD : G ≠ D := (ne_of_none hD1 (none_of hG)).symm
    have hE0 : H E = none := none_back s1 hEn
    have hG0 : H G = none := none_back s1 (none_of hG)
    have sE : Same H1 (upd H1 E (.lst [.int 0])) := same_new (Same.refl _) hEn
    have sG : Same H1 (upd (upd H1 E (.lst [.int 0])) G (.lst [])) := same_new sE hG
    refine while_by (fun σ H' => ∃ (v7 v8 v9 : Option V) (met : List Nat) (told : List (List Nat)) (tvs : List V), σ = [some (.ref r), some (.ref e), some (.ref k), some (.ref D), some (.ref E), some (.ref G), some (.int (told.length : Nat)), v7, v8, v9, none] ∧ MixD.XD w H' D (plE m met) ∧
      H' E = some (.lst (met.map nV)) ∧ H' G = some (.lst tvs) ∧ RwZ H' tvs told ∧ ZA.Part M met told [] ∧ Same H H') (fun σ _ => match σ with | [_, _, _, _, _, _, some (.int a), _, _, _, _] => M.n - a.toNat | _ => 0)
      ⟨none, none, none, [0], [], [], rfl, x1.up (fun a vs q => sG _ _ q) ?_, ?_, upd_same, .nil, ZA.part_start n0, s1.trans sG⟩ ?_ ?_
    · rw [upd_ne nGD.symm, upd_ne nED.symm]
    · rw [upd_ne nGE.symm, upd_same]
      rfl
    · rintro σ H2 ⟨v7, v8, v9, met, told, tvs, rfl, xD, hE2, hG2, hT, pt, s2⟩
      have few := pt.nodup
      refine ⟨_, rfl, _, rfl, E, _, rfl, .inl (SqL.of hE2), _, _, rfl, rfl, _, rfl, ite2 (fun z => ?_) (fun z => ?_)⟩
      · have z : told.length < met.length := by
          have := of_decide_eq_true z
          rw [List.length_map] at this
          omega
        obtain ⟨s, hs⟩ : ∃ s, met[told.length]? = some s := ⟨_, List.getElem?_eq_getElem z⟩
        have sn := pt.inn _ _ hs
        obtain ⟨row, hrow⟩ : ∃ row, M.rows[s]? = some row := ⟨_, List.getElem?_eq_getElem sn⟩
        obtain ⟨ra, hra, hrs⟩ := hW.get hrow
        refine ⟨Nat.zero_le _, fun R hR0 => ?_⟩
        refine normG (σ' := [some (.ref r), some (.ref e), some (.ref k), some (.ref D), some (.ref E), some (.ref G), some (.int (told.length : Nat)), some (.ref R), v8, v9, none]) rfl ?_
        have nER : E ≠ R := ne_of_none hE2 hR0
        have nGR : G ≠ R := ne_of_none hG2 hR0
        obtain ⟨es2, hD2⟩ := xd_obj xD
        have nDR : D ≠ R := ne_of_none hD2 hR0
        have hRH : H R = none := none_back s2 hR0
        have s3 : Same H2 (upd H2 R (.lst [])) := same_new (Same.refl _) hR0
        refine any_get (a := ra) (xs := row.map nV) (fun P q => ⟨_, rfl, _, rfl, _, rfl, E, _, _, _, rfl, rfl, .inl (SqL.of (s3 _ _ hE2)), atN (by rw [List.getElem?_map, hs]; rfl), r, _, _, _, rfl, rfl, (Sq.same hR (s2.trans s3)).any, atN hra, q⟩) (hrs.same (s2.trans s3)) (fun J wk => ?_)
        refine for_it wk (fun c σ H' => ∃ (v8 v9 : Option V) (met' row' : List Nat), σ = [some (.ref r), some (.ref e), some (.ref k), some (.ref D), some (.ref E), some (.ref G), some (.int (told.length : Nat)), some (.ref R), v8, v9, none] ∧ MixD.XD w H' D (plE m met') ∧
          H' E = some (.lst (met'.map nV)) ∧ H' G = some (.lst tvs) ∧ RwZ H' tvs told ∧ H' R = some (.lst (row'.map nV)) ∧ row'.length = c ∧ ZA.Part M met' told row' ∧ met'[told.length]? = some s ∧ Same H H')
          ⟨v8, v9, met, [], rfl, xD.up (fun a vs q => s3 _ _ q) (upd_ne nDR), s3 _ _ hE2, s3 _ _ hG2, hT.same s3, upd_same, rfl, pt, hs, s2.trans s3⟩ (fun i σ H' _ ⟨_, _, _, _, _, _, _, _, _, _, _, _, _, s4⟩ => ?_) ?_ ?_
        · exact hrs.eqs s4 (s2.trans s3)
        · rintro c x σ H3 H4 hc ⟨v8, v9, met', row', rfl, xD3, hE3, hG3, hT3, hR3, lr, pt3, hs3, s4⟩ ⟨rfl, ex⟩
          obtain ⟨t, ht, rfl⟩ := map_at ex
          have tn : t < M.n := ok.inn s row t hrow (List.mem_of_getElem? ht)
          have et : M.to s row'.length = t := by rw [lr]; exact ZA.to_at hrow ht
          have few3 := pt3.nodup
          have lrw := ok.wide s row hrow
          rw [List.length_map] at hc
          have dist : ∀ (i j s t : Nat), met'[i]? = some s → met'[j]? = some t → m s = m t → i = j := fun i j s t e1 e2 e3 => pt3.apart i j s t e1 e2 ((mk s t (pt3.inn i s e1) (pt3.inn j t e2)).mp e3)
          refine normG (σ' := [some (.ref r), some (.ref e), some (.ref k), some (.ref D), some (.ref E), some (.ref G), some (.int (told.length : Nat)), some (.ref R), some (nV t), v9, none]) rfl ?_
          refine ⟨_, rfl, _, rfl, k, _, _, _, rfl, rfl, (hK.same s4).any, atN (mV t tn), ?_⟩
          refine normG (σ' := [some (.ref r), some (.ref e), some (.ref k), some (.ref D), some (.ref E), some (.ref G), some (.int (told.length : Nat)), some (.ref R), some (nV t), some (.int (m t)), none]) rfl ?_
          dsimp only
          refine mid (fun σ' H' => ∃ (met2 : List Nat) (b : Nat), σ' = [some (.ref r), some (.ref e), some (.ref k), some (.ref D), some (.ref E), some (.ref G), some (.int (told.length : Nat)), some (.ref R), some (nV t), some (.int (m t)), none] ∧ MixD.XD w H' D (plE m met2) ∧
            H' E = some (.lst (met2.map nV)) ∧ H' G = some (.lst tvs) ∧ RwZ H' tvs told ∧ H' R = some (.lst (row'.map nV)) ∧ ZA.Part M met2 told (row' ++ [b]) ∧ met2[told.length]? = some s ∧ MixD.val (plE m met2) (.num (m t)) = some (.int (b : Nat)) ∧ Same H H') (fun key => ?_) ?_
          · refine ⟨_, rfl, _, rfl, D, _, .num (m t), rfl, xD3, .int _, dep_num, _, rfl, ite2 (fun y => ?_) (fun y => ?_)⟩
            · have new : ∀ (i t' : Nat), met'[i]? = some t' → m t' ≠ m t := fun i t' e1 e2 => by
                have := plE_val dist e1
                rw [e2] at this
                rw [this] at y
                cases y
              refine ⟨_, rfl, E, _, rfl, .inl (SqL.of hE3), _, rfl, _, rfl, D, _, .num (m t), rfl, xD3, .int _, dep_num, szL _ (by rw [plE_len]; omega), fun es5 x5 => ?_⟩
              rw [List.length_map, plE_put new] at x5
              obtain ⟨es3, hD3⟩ := xd_obj xD3
              obtain ⟨H5, eH5⟩ : ∃ X, X = upd H4 D (MixD.mixO D es5) := ⟨_, rfl⟩
              have s5 : Same H H5 := by rw [eH5]; exact same_upd s4 hD
              have f5 : FK H4 H5 := by rw [eH5]; exact fk_updX hD3
              have k5 : ∀ b, b ≠ D → H5 b = H4 b := fun b hb => by rw [eH5, upd_ne hb]
              rw [← eH5] at x5 ⊢
              have hE5 := (k5 E nED).trans hE3
              refine ⟨_, rfl, .inl ⟨rfl, _, SqL.of hE5⟩, _, rfl, E, _, _, rfl, rfl, hE5, szL _ (by rw [List.length_map]; omega), ?_⟩
              have k6 : ∀ b, b ≠ E → upd H5 E (.lst (met'.map nV ++ [nV t])) b = H5 b := fun b hb => upd_ne hb
              have pn := pt3.new (s := s) hs3 (by rw [et]; exact tn) (fun i t' e1 e2 => new i t' e1 ((mk t' t (pt3.inn i t' e1) tn).mpr (by rw [et] at e2; exact e2.symm)))
              rw [et] at pn
              refine key _ _ ⟨met' ++ [t], met'.length, rfl, x5.up (fun a vs q => ?_) (k6 D nED.symm), ?_, ?_, rwZ_fk (rwZ_fk hT3 f5) (fk_updL hE5), ?_, pn, ?_, ?_, same_upd s5 hE0⟩
              · exact TSame.updL hE5 a vs q
              · rw [upd_same, List.map_append]
                rfl
              · rw [k6 G nGE, k5 G nGD]
                exact hG3
              · rw [k6 R nER.symm, k5 R nDR.symm]
                exact hR3
              · rw [List.getElem?_append_left (List.getElem?_eq_some_iff.mp hs3).1]
                exact hs3
              · have dist2 : ∀ (i j s t' : Nat), (met' ++ [t])[i]? = some s → (met' ++ [t])[j]? = some t' → m s = m t' → i = j := fun i j s t' e1 e2 e3 => pn.apart i j s t' e1 e2 ((mk s t' (pn.inn i s e1) (pn.inn j t' e2)).mp e3)
                exact plE_val dist2 (by rw [List.getElem?_append_right (Nat.le_refl _), Nat.sub_self]; rfl)
            · obtain ⟨i, t', e1, e2⟩ : ∃ (i t' : Nat), met'[i]? = some t' ∧ m t' = m t := by
                refine Classical.byContradiction fun no => y ?_
                rw [MixD.val_none (plE_no fun i t' e1 e2 => no ⟨i, t', e1, e2⟩)]
                rfl
              have hv := plE_val dist e1
              rw [e2] at hv
              refine un_next (key _ _ ⟨met', i, rfl, xD3, hE3, hG3, hT3, hR3, pt3.old hs3 e1 ?_, hs3, hv, s4⟩)
              rw [et]
              exact (mk t t' tn (pt3.inn i t' e1)).mp e2.symm
          · rintro σ H5 ⟨met2, b, rfl, xD5, hE5, hG5, hT5, hR5, pt5, hs5, hv5, s5⟩
            refine ⟨_, rfl, .inl ⟨rfl, _, SqL.of hR5⟩, _, rfl, _, rfl, D, _, .num (m t), _, rfl, xD5, .int _, dep_num, hv5, R, _, _, rfl, rfl, hR5, szL _ (by rw [List.length_map]; omega), ?_⟩
            refine ⟨_, _, met2, row' ++ [b], rfl, xD5.up (fun a vs q => TSame.updL hR5 a vs q) (upd_ne nDR), ?_, ?_, rwZ_fk hT5 (fk_updL hR5), ?_, ?_, pt5, hs5, same_upd s5 hRH⟩
            · rw [upd_ne nER]
              exact hE5
            · rw [upd_ne nGR]
              exact hG5
            · rw [upd_same, List.map_append]
              rfl
            · rw [List.length_append, lr]
              rfl
        · rintro σ H3 ⟨v8, v9, met', row', rfl, xD3, hE3, hG3, hT3, hR3, lr, pt3, hs3, s4⟩
          rw [List.length_map] at lr
          have lw := ok.wide s row hrow
          have few3 := pt3.nodup
          have pt4 := pt3.turn hs3 (by rw [lr, lw]) ok.w1
          refine ⟨_, rfl, .inl ⟨rfl, _, SqL.of hG3⟩, _, rfl, R, _, rfl, SqL.of hR3, fun l o hl od => ?_⟩
          have s5 : Same H3 (upd H3 l (.frz o (.tup (row'.map nV)))) := same_new (Same.refl _) hl
          refine ⟨G, _, _, rfl, rfl, s5 _ _ hG3, szL _ (by rw [hT3.len]; have := pt3.few; omega), ?_⟩
          obtain ⟨H4, eH4⟩ : ∃ X, X = upd H3 l (.frz o (.tup (row'.map nV))) := ⟨_, rfl⟩
          have hl4 : H4 l = some (.frz o (.tup (row'.map nV))) := by rw [eH4, upd_same]
          rw [← eH4] at s5 ⊢
          have hG4 := s5 _ _ hG3
          have nlG : l ≠ G := fun z => by
            rw [z, hG4] at hl4
            cases hl4
          refine ⟨_, rfl, _, _, rfl, rfl, ?_⟩
          refine ⟨⟨some (.ref R), v8, v9, met', told ++ [row'], tvs ++ [.ref l], ?_, ?_, ?_, upd_same, ?_, pt4, same_upd (s4.trans s5) hG0⟩, ?_⟩
          · rw [List.length_append]
            rfl
          · exact (xD3.up (fun a vs q => s5 _ _ q) (by obtain ⟨q, e⟩ := xd_obj xD3; rw [s5 _ _ e, e])).up (fun a vs q => TSame.updL hG4 a vs q) (upd_ne nGD.symm)
          · rw [upd_ne nGE.symm]
            exact s5 _ _ hE3
          · exact rwZ_fk ((hT3.same s5).snoc ⟨o, od, hl4⟩) (fk_updL hG4)
          · show M.n - ((told.length : Int) + 1).toNat < M.n - ((told.length : Int)).toNat
            have := pt3.few
            omega
      · have z : told.length = met.length := by
          have h1 : ¬ ((told.length : Int) < ((met.map nV).length : Int)) := fun y => z (decide_eq_true y)
          rw [List.length_map] at h1
          have := pt.few
          omega
        have td := pt.done z
        refine ⟨_, rfl, G, _, rfl, .inl ⟨SqL.of hG2, fun l hl => ?_⟩⟩
        have s3 : Same H2 (upd H2 l (.tup tvs)) := same_new (Same.refl _) hl
        obtain ⟨H3, eH3⟩ : ∃ X, X = upd H2 l (.tup tvs) := ⟨_, rfl⟩
        have hl3 : H3 l = some (.tup tvs) := by rw [eH3, upd_same]
        rw [← eH3] at s3 ⊢
        refine any_var rfl (xs := met.map nV) (.inl (s3 _ _ hE2)) (fun J wk => ?_)
        intro D4 hD4
        refine lc_all wk hD4 (by rw [List.length_map]; omega) (fun i y _ => ∀ s, met[i]? = some s → y = V.bl (M.endAt s)) (fun _ _ _ _ _ h => h) (fun H8 s8 => by rw [s8 _ _ (s3 _ _ hE2), s3 _ _ hE2]) ?_ ?_
        · rintro j x H7 H8 R2 N2 zs2 hj s7 eD3 ⟨rfl, ex2⟩ k7
          obtain ⟨s, hs, rfl⟩ := map_at ex2
          have sn := pt.inn j s hs
          have he : M.ends[s]? = some (M.endAt s) := by
            show M.ends[s]? = some (M.ends.getD s false)
            rw [List.getD_eq_getElem?_getD, List.getElem?_eq_getElem (by rw [ok.ends]; exact sn)]
            rfl
          refine ⟨rfl, yes_to ⟨_, rfl, _, rfl, e, _, _, _, rfl, rfl, (Sq.same hE ((s2.trans s3).trans s7)).any, atN (by rw [List.getElem?_map, he]; rfl), k7 _ _ (Same.refl _) ?_⟩⟩
          intro s' hs'
          rw [hs] at hs'
          cases hs'
          rfl
        · intro ys H7 ly7 py7 s7 eD7
          rw [List.length_map] at ly7
          rw [list_maps ly7 py7] at eD7
          refine ⟨D4, _, rfl, .inl ⟨SqL.of eD7, fun u hu => ⟨sz2, fun v hv => ?_⟩⟩⟩
          have s8 := same_new (o := .tup (met.map fun s => V.bl (M.endAt s))) (Same.refl H7) hu
          have s9 := same_new (o := .tup [.ref l, .ref u]) s8 hv
          have nu : u ≠ v := (none_ne hv).symm
          refine q _ _ ⟨M.w, told, met.map M.endAt⟩ met (((s2.trans s3).trans s7).trans s9) ⟨v, l, u, tvs, rfl, upd_same, s9 _ _ (s7 _ _ hl3), (hT.same (s3.trans s7)).same s9, ?_⟩ td
          rw [upd_ne nu, upd_same, List.map_map]
          rfl
    · rintro σ H2 Q1 Q2 hq ⟨x, hx, y, hy, p, ys, e1, e2, i, j, e3, e4, b, e5, z⟩
      exact ⟨x, hx, y, hy, p, ys, e1, e2, i, j, e3, e4, b, e5, hq _ _ z⟩
end
end K01
set_option maxHeartbeats 4000000
namespace K01
open PySem PySem.Spec PyProof.Rows L2 Z
theorem u12 {k : Nat} {A : Around} (h : Room k A) : A.units + 12 < cLine := by have := h.units; omega
/-- the value is the whole number, or the truth that it stands for -/
def isNum (v : V) (i : Int) : Prop := v = .int i ∨ ∃ b, v = .bl b ∧ i = if b = true then 1 else 0
theorem isNum.nv {H : Hp} {v : V} {i : Int} (h : isNum v i) : MixD.NV H (.num i) v := by
  rcases h with rfl | ⟨b, rfl, e⟩
  · exact .int _
  · exact .bl e
/-- the marks of the states, in a list or a tuple -/
def MkAt (H : Hp) (a : Addr) (n : Nat) (m : Nat → Int) (mv : List V) : Prop := Sq H a mv ∧ mv.length = n ∧ ∀ s v, mv[s]? = some v → isNum v (m s)
theorem MkAt.same {H H' : Hp} {a : Addr} {n : Nat} {m : Nat → Int} {mv : List V} (h : MkAt H a n m mv) (s : Same H H') : MkAt H' a n m mv := ⟨h.1.same s, h.2⟩
def spRefined : Sp := fun vs H Q _ => ∃ (r e : Addr) (A : ZA.Aut) (m : Nat → Int) (mv : List V) (most : Int), vs = [.ref r, .ref e, .int most] ∧ RowsAt H r A.rows ∧ MkAt H e A.n m mv ∧ ZA.Rough A m ∧ A.Ok ∧ 0 < A.n ∧ A.n ≤ 400 ∧ A.w ≤ 1000 ∧ (A.n : Int) ≤ most ∧
  ∀ l H' m', Same H H' → H' l = some (.lst ((List.range A.n).map fun s => .int (m' s))) → ZA.Marks A m' → (∀ s, s < A.n → 0 ≤ m' s) → Q (.ref l) H'
section
variable {P : Program} {w : World} {K : PySem.W.Frag} {mg : Str → Option Value} {base : Heap}
theorem ends_marks {H : Hp} {e : Addr} {A : ZA.Aut} (h : EndsAt H e A.ends) (ok : A.Ok) : MkAt H e A.n (fun s => if A.endAt s = true then 1 else 0) (A.ends.map V.bl) := by
  refine ⟨h, by rw [List.length_map, ok.ends]; rfl, fun s v ev => ?_⟩
  obtain ⟨b, hb, rfl⟩ := map_at ev
  refine .inr ⟨b, rfl, ?_⟩
  have : A.endAt s = b := by
    show A.ends.getD s false = b
    rw [List.getD_eq_getElem?_getD, hb]
    rfl
  show (if A.endAt s = true then (1 : Int) else 0) = _
  rw [this]
theorem rough_ends {A : ZA.Aut} (ok : A.Ok) : ZA.Rough A (fun s => if A.endAt s = true then (1 : Int) else 0) := by
  have key : ∀ a b : Bool, (if a = true then (1 : Int) else 0) = (if b = true then 1 else 0) ↔ a = b := fun a b => by cases a <;> cases b <;> simp
  exact ⟨fun s t hs ht h => (key _ _).mp h, fun s t hs ht h => (key _ _).mpr (ZA.lang_end h)⟩
theorem sc_refined : FnScope ["rows", "marks", "most", "columns", "many", "behind", "then", "column", "keys", "table", "key"] ["rows", "marks", "most"] (defScope s_refined) := ⟨rfl, rfl, rfl, by decide +kernel, rfl, by decide +kernel, by decide +kernel⟩
theorem ok_refined {f : Addr} {fd : FuncData} (F : FnP K "refined" s_refined f fd) (T : Nb mg) : FnOk P w K mg base CX0 1 f fd ["rows", "marks", "most"] spRefined := by
  refine F.ok sc_refined (fun vs H Q E h => ?_) (fun cdv A outer s H vs Q E hr h => ?_)
  · obtain ⟨r, e, M, m, mv, most, rfl, _⟩ := h
    rfl
  · obtain ⟨r, e, M, m, mv, most, rfl, ⟨rvs, hR, hW⟩, hM, rg, ok, n0, hn, hw, hm, q⟩ := h
    have hu9 := u9 hr
    have hu12 := u12 hr
    refine ⟨_, PSs.nox (pss_cons (ps_set (i := 3) sc_refined.nd rfl (Or.inl rfl) (ZpR.pe_listZip1 rfl (by rfl) T.list (by rfl) T.zip (pv 0)))
      (pss_cons (ps_set (i := 4) sc_refined.nd rfl (Or.inl rfl) pe_int)
      (pss_one (ps_while PassesOwn.never (pt_val pe_bl) (pss_cons (ps_setLc (i := 5) (own := [("column", 7)]) (g := gName 7) (tt := tYes) rfl sc_refined.nd rfl rfl (sw_true rfl rfl rfl (by decide +kernel)) (pi_anyK (K := K) rfl (pv 3)) (blkOk_by (N := ["rows", "marks", "most", "columns", "many", "behind", "then", "column", "keys", "table", "key"]) (sc := defScope s_refined) (by decide +kernel)) (fun _ _ _ _ _ => (pg_name (i := 7) sc_refined.nd rfl (.inl rfl))) (fun _ _ _ _ _ => pts_nil) (fun _ _ _ _ _ => (pe_lc (own := [("then", 6)]) (g := gName 6) (tt := tYes) rfl sc_refined.nd (pi_anyK (K := K) rfl (pv 7)) (blkOk_by (N := ["rows", "marks", "most", "columns", "many", "behind", "then", "column", "keys", "table", "key"]) (by rfl)) (fun _ _ _ _ _ => (pg_name (i := 6) sc_refined.nd rfl (.inl rfl))) (fun _ _ _ _ _ => pts_nil) (fun _ _ _ _ _ => (pe_ix (ix_anyK (K := K) rfl) (pv 1) (pv 6) (fun _ _ => rfl))))))
      (pss_cons (ps_set (i := 8) sc_refined.nd rfl (Or.inl rfl) (ZpR.pe_listZip2 rfl (by rfl) T.list (by rfl) T.zip (pa_cons (pv 1) (StX.pa_star (pv 5) pa_nil))))
      (pss_cons (ps_set (i := 9) sc_refined.nd rfl (Or.inr rfl) (ZpR.pe_dictZip rfl hu12 (by rfl) T.dict (by rfl) T.zip (pa_cons (pv 8) (pa_cons (pe_callTy cr_range1 (by rfl) T.range (by decide +kernel) (pa_cons (pe_callB (call_lenA (K := K) rfl) (by rfl) T.len PySem.boot_len (pa_cons (pv 8) pa_nil)) pa_nil)) pa_nil))))
      (pss_cons (ps_if (pt_cmpR op_eq (pe_callB MixD.call_lenX (by rfl) T.len PySem.boot_len (pa_cons (pv 9) pa_nil)) (pv 4) (nomark _)) (pss_one (ps_ret (pv 1))) pss_nil)
      (pss_cons (ps_if (pt_cmpR op_gt (pe_callB MixD.call_lenX (by rfl) T.len PySem.boot_len (pa_cons (pv 9) pa_nil)) (pv 2) (nomark _)) (pss_one (ps_ret pe_non)) pss_nil)
      (pss_cons (ps_set (i := 1) sc_refined.nd rfl (Or.inr rfl) (pe_lc (own := [("key", 10)]) (g := gName 10) (tt := tYes) rfl sc_refined.nd (pi_anyK (K := K) rfl (pv 8)) (blkOk_by (N := ["rows", "marks", "most", "columns", "many", "behind", "then", "column", "keys", "table", "key"]) (sc := defScope s_refined) (by decide +kernel)) (fun _ _ _ _ _ => (pg_name (i := 10) sc_refined.nd rfl (.inl rfl))) (fun _ _ _ _ _ => pts_nil) (fun _ _ _ _ _ => (MixD.pe_xgetW (w := w) rfl hu9 (pv 9) (pv 10) (fun _ _ => rfl)))))
      (pss_one (ps_set (i := 4) sc_refined.nd rfl (Or.inl rfl) (pe_callB MixD.call_lenX (by rfl) T.len PySem.boot_len (pa_cons (pv 9) pa_nil)))))))))))))), ?_⟩
    have lrv := hW.len
    have row : ∀ s, s < M.n → ∃ rw_, M.rows[s]? = some rw_ ∧ rw_.length = M.w ∧ ∀ c, c < M.w → rw_[c]? = some (M.to s c) := fun s hs => by
      obtain ⟨x, hx⟩ : ∃ x, M.rows[s]? = some x := ⟨_, List.getElem?_eq_getElem hs⟩
      have lx := ok.wide s x hx
      refine ⟨x, hx, lx, fun c hc => ?_⟩
      obtain ⟨y, hy⟩ : ∃ y, x[c]? = some y := ⟨_, List.getElem?_eq_getElem (by omega)⟩
      rw [hy, ZA.to_at hx hy]
    have rowsM : M.rows.map (fun r => r.map nV) = (List.range M.n).map fun s => (List.range M.w).map fun c => nV (M.to s c) := by
      refine List.ext_getElem (by simp [ZA.Aut.n]) fun s a b => ?_
      have hs : s < M.n := by simpa using b
      obtain ⟨x, hx, lx, h⟩ := row s hs
      have ex : M.rows[s] = x := Option.some.inj ((List.getElem?_eq_getElem hs).symm.trans hx)
      rw [List.getElem_map, List.getElem_map, List.getElem_range]
      refine (congrArg (List.map nV) ex).trans ?_
      refine List.ext_getElem (by simp [lx]) fun c a b => ?_
      have hc : c < M.w := by simpa using b
      have := h c hc
      rw [List.getElem?_eq_getElem (by omega)] at this
      rw [List.getElem_map, List.getElem_map, List.getElem_range, Option.some.inj this]
    refine ⟨_, rfl, r, rvs, rfl, (Sq.any hR).symm, M.w, _, seqs_rwA hW (fun x m => by obtain ⟨s, hs⟩ := List.mem_iff_getElem?.mp m; exact ok.wide s x hs), fun z => by rw [z] at lrv; simp at lrv; unfold ZA.Aut.n at n0; omega, szM _ (by rw [lrv]; unfold ZA.Aut.n at hn; omega), szM _ (by omega), fun ts l lt nd tn ln lts => ?_⟩
    have s1 := lay_same (rs := ZpR.turnR M.w (M.rows.map fun r => r.map nV)) (o := .lst (ts.map V.ref)) tn ln
    obtain ⟨H1, eH1⟩ : ∃ X, X = upd (ZpR.layR H ts (ZpR.turnR M.w (M.rows.map fun r => r.map nV))) l (.lst (ts.map V.ref)) := ⟨_, rfl⟩
    have hl1 : H1 l = some (.lst (ts.map V.ref)) := by rw [eH1, upd_same]
    have col : ∀ c tc, ts[c]? = some tc → c < M.w ∧ H1 tc = some (.tup ((List.range M.n).map fun s => nV (M.to s c))) := fun c tc e => by
      have hc : c < M.w := by
        have := (List.getElem?_eq_some_iff.mp e).1
        omega
      refine ⟨hc, ?_⟩
      rw [eH1]
      refine lay_at nd lts e ?_
      rw [turnR_at hc, rowsM, col_map]
      intro s hs
      simp [hc]
    rw [← eH1] at s1 ⊢
    refine normG (σ' := [some (.ref r), some (.ref e), some (.int most), some (.ref l), none, none, none, none, none, none, none]) rfl ?_
    dsimp only
    refine normG (σ' := [some (.ref r), some (.ref e), some (.int most), some (.ref l), some (.int 0), none, none, none, none, none, none]) rfl ?_
    refine while_by (fun σ H' => ∃ (m : Nat → Int) (mv : List V) (ea : Addr) (F : List Int) (v5 v8 v9 : Option V), σ = [some (.ref r), some (.ref ea), some (.int most), some (.ref l), some (.int (F.length : Nat)), v5, none, none, v8, v9, none] ∧ MkAt H' ea M.n m mv ∧ ZA.Rough M m ∧ Kinds M m F ∧
      (F = [] ∨ (H' ea = some (.lst ((List.range M.n).map fun s => .int (m s))) ∧ ∀ s, s < M.n → 0 ≤ m s)) ∧ Same H1 H') (fun σ _ => match σ with | [_, _, _, _, some (.int a), _, _, _, _, _, _] => M.n - a.toNat | _ => 0)
      ⟨m, mv, e, [], none, none, none, rfl, hM.same s1, rg, ⟨List.nodup_nil, fun x h => by simp at h⟩, .inl rfl, Same.refl _⟩ ?_ ?_
    · rintro σ H2 ⟨m, mv, ea, F, v5, v8, v9, rfl, hM2, rg2, kd, fi, s2⟩
      refine ⟨_, rfl, if_yes rfl ?_⟩
      obtain ⟨hmq, lmv, hmn⟩ := hM2
      obtain ⟨mvd, emv⟩ : ∃ mvd : Nat → V, mvd = fun s => mv.getD s .non := ⟨_, rfl⟩
      have mat : ∀ s, s < M.n → mv[s]? = some (mvd s) := fun s hs => by
        rw [emv]
        show mv[s]? = some (mv.getD s .non)
        rw [List.getD_eq_getElem?_getD, List.getElem?_eq_getElem (by omega)]
        rfl
      refine any_var rfl (xs := ts.map V.ref) (.inl (s2 _ _ hl1)) (fun J wk => ?_)
      intro D hD
      refine lc_all wk hD (by rw [List.length_map]; omega) (fun c y H' => ∃ a', y = V.ref a' ∧ a' ≠ D ∧ H' a' = some (.lst ((List.range M.n).map fun s => mvd (M.to s c)))) (fun i y H5 H6 k5 ⟨a', e2, e3, e4⟩ => ⟨a', e2, e3, k5 _ _ e3 e4⟩) (fun H5 s5 => by rw [s5 _ _ (s2 _ _ hl1), s2 _ _ hl1]) ?_ ?_
      · rintro c x H5 H6 R N zs hi s5 eD ⟨rfl, ex⟩ k5
        rw [List.getElem?_map] at ex
        obtain ⟨tc, htc, rfl⟩ := Option.map_eq_some_iff.mp ex
        obtain ⟨hc, hcol⟩ := col c tc htc
        have hcol5 := (s2.trans s5) _ _ hcol
        refine ⟨rfl, yes_to ?_⟩
        refine any_var rfl (xs := (List.range M.n).map fun s => nV (M.to s c)) (.inr (.inl hcol5)) (fun J2 wk2 => ?_)
        intro D3 hD3
        refine lc_all wk2 hD3 (by rw [List.length_map, List.length_range]; omega) (fun s y _ => y = mvd (M.to s c)) (fun _ _ _ _ _ h => h) (fun H8 s8 => by rw [s8 _ _ hcol5, hcol5]) ?_ ?_
        · rintro s x H7 H8 R2 N2 zs2 hj s7 eD3 ⟨rfl, ex2⟩ k7
          rw [List.length_map, List.length_range] at hj
          rw [range_at hj] at ex2
          cases ex2
          have tn := ZA.to_lt ok hj hc
          exact ⟨rfl, yes_to ⟨_, rfl, _, rfl, ea, _, _, _, rfl, rfl, (hmq.same (s5.trans s7)).any, atN (mat _ tn), k7 _ _ (Same.refl _) rfl⟩⟩
        · intro ys2 H7 ly7 py7 s7 eD3
          rw [List.length_map, List.length_range] at ly7
          exact k5 _ _ s7 ⟨D3, rfl, (ne_of_none eD hD3).symm, by rw [eD3, list_is ly7 py7]⟩
      · intro bs H3 lb pb s3 eD3
        rw [List.length_map, lt] at lb
        refine normG (σ' := [some (.ref r), some (.ref ea), some (.int most), some (.ref l), some (.int (F.length : Nat)), some (.ref D), none, none, v8, v9, none]) rfl ?_
        have sq : ZpR.SeqsV K H3 M.n (.ref ea :: bs) (mv :: (List.range M.w).map fun c => (List.range M.n).map fun s => mvd (M.to s c)) := .cons (hmq.same s3).any lmv (seqs_get (by rw [lb]; simp) fun c v x ev ex => by
          obtain ⟨a', rfl, _, e4⟩ := pb c v ev
          have hc : c < M.w := by
            have := (List.getElem?_eq_some_iff.mp ev).1
            omega
          rw [List.getElem?_map, List.getElem?_range hc] at ex
          cases ex
          exact ⟨a', rfl, .inl (SqL.of e4), by simp⟩)
        refine ⟨_, rfl, _, rfl, D, bs, rfl, .inr (SqL.of eD3), M.n, _, by show ZpR.SeqsV K H3 M.n (.ref ea :: (bs ++ [])) _; rw [List.append_nil]; exact sq, by simp, szM _ (by simp; omega), szM _ (by omega), fun ts2 kl lt2 nd2 tn2 ln2 lts2 => ?_⟩
        have s4 := lay_same (H := H3) (rs := ZpR.turnR M.n (mv :: (List.range M.w).map fun c => (List.range M.n).map fun s => mvd (M.to s c))) (o := .lst (ts2.map V.ref)) tn2 ln2
        obtain ⟨H4, eH4⟩ : ∃ X, X = upd (ZpR.layR H3 ts2 (ZpR.turnR M.n (mv :: (List.range M.w).map fun c => (List.range M.n).map fun s => mvd (M.to s c)))) kl (.lst (ts2.map V.ref)) := ⟨_, rfl⟩
        have hkl : H4 kl = some (.lst (ts2.map V.ref)) := by rw [eH4, upd_same]
        have key : ∀ s t2, ts2[s]? = some t2 → s < M.n ∧ H4 t2 = some (.tup (mvd s :: (List.range M.w).map fun c => mvd (M.to s c))) := fun s t2 e2 => by
          have hs : s < M.n := by
            have := (List.getElem?_eq_some_iff.mp e2).1
            omega
          refine ⟨hs, ?_⟩
          rw [eH4]
          refine lay_at nd2 lts2 e2 ?_
          rw [turnR_at hs, List.filterMap_cons, mat s hs, col_map]
          · exact fun c _ => range_at hs
        rw [← eH4] at s4 ⊢
        refine normG (σ' := [some (.ref r), some (.ref ea), some (.int most), some (.ref l), some (.int (F.length : Nat)), some (.ref D), none, none, some (.ref kl), v9, none]) rfl ?_
        have nkey : ∀ {H'}, Same H4 H' → ∀ s v, (ts2.map V.ref)[s]? = some v → s < M.n ∧ MixD.NV H' (kS M m s) v := fun {H'} s' s v ev => by
          rw [List.getElem?_map] at ev
          obtain ⟨t2, e2, rfl⟩ := Option.map_eq_some_iff.mp ev
          obtain ⟨hs, h2⟩ := key s t2 e2
          refine ⟨hs, .tup (s' _ _ h2) (nvs_get (by simp [ZA.keyOf]) fun j v i ej ei => ?_)⟩
          cases j with
          | zero =>
            cases (Option.some.inj ej)
            cases (Option.some.inj ei)
            exact (hmn s _ (mat s hs)).nv
          | succ j =>
            have ej : ((List.range M.w).map fun c => mvd (M.to s c))[j]? = some v := ej
            have ei : ((List.range M.w).map fun c => m (M.to s c))[j]? = some i := ei
            have hj : j < M.w := by
              have := (List.getElem?_eq_some_iff.mp ej).1
              simpa using this
            rw [range_at hj] at ej
            cases ej
            rw [List.getElem?_map, List.getElem?_range hj] at ei
            cases ei
            exact (hmn _ _ (mat _ (ZA.to_lt ok hs hj))).nv
        refine ⟨_, rfl, _, rfl, kl, _, rfl, .inl (SqL.of hkl), _, rfl, fun p hp => ⟨kl, p, ts2.map V.ref, ksOf M m, rfl, SqL.of (same_new (Same.refl _) hp _ _ hkl), upd_same, keys_get (by simp [ksOf, lt2]) fun s v k ev ek => ?_, szM _ (by rw [List.length_map]; omega), fun d es hd xd => ?_⟩⟩
        · obtain ⟨hs, h2⟩ := nkey (same_new (Same.refl _) hp) s v ev
          rw [ks_at hs] at ek
          cases ek
          exact ⟨h2, dep_kS⟩
        have s5 : Same H4 (upd H4 p (.rng 0 ((ts2.map V.ref).length : Nat))) := same_new (Same.refl _) hp
        have s6 := same_new (o := MixD.mixO d es) s5 hd
        obtain ⟨H6, eH6⟩ : ∃ X, X = upd (upd H4 p (.rng 0 ((ts2.map V.ref).length : Nat))) d (MixD.mixO d es) := ⟨_, rfl⟩
        rw [← eH6] at xd s6 ⊢
        have sA := ((s2.trans s3).trans s4).trans s6
        refine normG (σ' := [some (.ref r), some (.ref ea), some (.int most), some (.ref l), some (.int (F.length : Nat)), some (.ref D), none, none, some (.ref kl), some (.ref d), none]) rfl ?_
        have tl := tab_len (A := M) (m := m)
        have tp := tab_pos (m := m) n0
        refine ⟨_, rfl, d, tab M m, rfl, xd, _, rfl, rfl, _, rfl, ite2 (fun z => ?_) (fun z => ?_)⟩
        · have z : (tab M m).length = F.length := by
            have := of_decide_eq_true z
            injection this with this
            omega
          obtain ⟨hea, hnn⟩ : H2 ea = some (.lst ((List.range M.n).map fun s => .int (m s))) ∧ ∀ s, s < M.n → 0 ≤ m s := by
            rcases fi with rfl | h
            · rw [List.length_nil] at z
              omega
            · exact h
          exact ⟨_, rfl, q ea _ m (s1.trans sA) ((s3.trans s4).trans s6 _ _ hea) (kinds_done kd ok rg2 z) hnn⟩
        · have z : (tab M m).length ≠ F.length := fun e => z (decide_eq_true (by rw [e]))
          refine un_next ⟨_, rfl, d, tab M m, rfl, xd, _, rfl, _, _, rfl, rfl, _, rfl, if_no (decide_eq_false (by omega)) (un_next ?_)⟩
          have hk6 := s6 _ _ hkl
          refine any_var rfl (xs := ts2.map V.ref) (.inl hk6) (fun J3 wk3 => ?_)
          intro D5 hD5
          refine lc_all wk3 hD5 (by rw [List.length_map]; omega) (fun s y _ => y = V.int (nxM M m s)) (fun _ _ _ _ _ h => h) (fun H8 s8 => by rw [s8 _ _ hk6, hk6]) ?_ ?_
          · rintro s x H7 H8 R2 N2 zs2 hj s7 eD5 ⟨rfl, ex2⟩ k7
            obtain ⟨hs, nv⟩ := nkey (s6.trans s7) s x ex2
            exact ⟨rfl, yes_to ⟨_, rfl, _, rfl, d, _, kS M m s, _, rfl, xd.up (fun a vs q => s7 _ _ q) (by obtain ⟨q, e⟩ := xd_obj xd; rw [s7 _ _ e, e]), nv, dep_kS, nx_val hs, k7 _ _ (Same.refl _) rfl⟩⟩
          · intro ys H7 ly7 py7 s7 eD7
            rw [List.length_map, lt2] at ly7
            have eys := list_is ly7 py7
            subst eys
            refine normG (σ' := [some (.ref r), some (.ref D5), some (.int most), some (.ref l), some (.int (F.length : Nat)), some (.ref D), none, none, some (.ref kl), some (.ref d), none]) rfl ?_
            obtain ⟨F2, k2, l2⟩ := kinds_next (A := M) (m := m)
            have up := kinds_up kd
            have xd7 := xd.up (fun a vs q => s7 _ _ q) (by obtain ⟨q, e⟩ := xd_obj xd; rw [s7 _ _ e, e])
            refine ⟨_, rfl, d, tab M m, rfl, xd7, ?_⟩
            refine ⟨⟨nxM M m, _, D5, F2, some (.ref D), some (.ref kl), some (.ref d), by rw [l2]; rfl, ⟨.inl eD7, by simp, fun s v ev => ?_⟩, ZA.rough_step ok rg2 (fun s t hs ht => nx_iff hs ht), k2, .inr ⟨eD7, fun s hs => by obtain ⟨i, _, e, _⟩ := nx_at (m := m) hs; rw [e]; omega⟩, sA.trans s7⟩, ?_⟩
            · have hs : s < M.n := by
                have := (List.getElem?_eq_some_iff.mp ev).1
                simpa using this
              rw [range_at hs] at ev
              cases ev
              exact .inl rfl
            · show M.n - ((tab M m).length : Int).toNat < M.n - (F.length : Int).toNat
              omega
    · rintro σ H2 Q1 Q2 hq ⟨b, e5, z⟩
      exact ⟨b, e5, hq _ _ z⟩
end
end K01
set_option maxHeartbeats 4000000
namespace K01
open PySem PySem.Spec PyProof.Rows L2 Z
def spAhead : Sp := fun vs H Q _ => ∃ (r : Addr) (A : ZA.Aut), vs = [.ref r] ∧ RowsAt H r A.rows ∧ A.Ok ∧ 0 < A.n ∧ A.n ≤ 400 ∧ A.w ≤ 1000 ∧ ∀ l H' E, Same H H' → H' l = some (.lst (E.map nV)) → ZA.Early A E → Q (.ref l) H'
section
variable {P : Program} {w : World} {K : PySem.W.Frag} {mg : Str → Option Value} {base : Heap}
theorem sc_ahead_of_cycles : FnScope ["rows", "row", "many", "then", "early", "at"] ["rows"] (defScope s_ahead_of_cycles) := ⟨rfl, rfl, rfl, by decide +kernel, rfl, by decide +kernel, by decide +kernel⟩
theorem ok_ahead {f : Addr} {fd : FuncData} (F : FnP K "ahead_of_cycles" s_ahead_of_cycles f fd) (T : Nb mg) : FnOk P w K mg base CX0 1 f fd ["rows"] spAhead := by
  refine F.ok sc_ahead_of_cycles (fun vs H Q E h => ?_) (fun cdv A outer s H vs Q E hr h => ?_)
  · obtain ⟨r, M, rfl, _⟩ := h
    rfl
  · obtain ⟨r, M, rfl, ⟨rvs, hR, hW⟩, ok, n0, hn, hw, q⟩ := h
    refine ⟨_, PSs.nox (pss_cons (ps_if (pt_val (pe_callB (cr_any rfl) (by rfl) T.any (by decide +kernel) (pa_cons (pe_lc (own := [("row", 1)]) (g := gName 1) (tt := tYes) rfl sc_ahead_of_cycles.nd (pi_anyK (K := K) rfl (pv 0)) (blkOk_by (N := ["rows", "row", "many", "then", "early", "at"]) (sc := defScope s_ahead_of_cycles) (by decide +kernel)) (fun _ _ _ _ _ => (pg_name (i := 1) sc_ahead_of_cycles.nd rfl (.inl rfl))) (fun _ _ _ _ _ => pts_nil) (fun _ _ _ _ _ => (pe_cmpR (op_inK (K := K) rfl) pe_int (pv 1) (by with_unfolding_all rfl)))) pa_nil))) (pss_one (ps_ret (pe_lst pa_nil))) pss_nil)
      (pss_cons (ps_set (i := 2) sc_ahead_of_cycles.nd rfl (Or.inl rfl) (pe_op op_rep (pe_lst (pa_cons pe_int pa_nil)) (pe_callB (call_lenA (K := K) rfl) (by rfl) T.len PySem.boot_len (pa_cons (pv 0) pa_nil))))
      (pss_cons (ps_for PassesOwn.never rfl (pi_anyK (K := K) rfl (pv 0)) (pg_name (i := 1) sc_ahead_of_cycles.nd rfl (.inl rfl)) (pss_one (ps_for PassesOwn.never rfl (pi_anyK (K := K) rfl (pv 1)) (pg_name (i := 3) sc_ahead_of_cycles.nd rfl (.inl rfl)) (pss_one (ps_augS (pv 2) (pv 3) (get_list (K := K) rfl) pe_int ip_add set_list)))))
      (pss_cons (ps_set (i := 4) sc_ahead_of_cycles.nd rfl (Or.inl rfl) (pe_lst (pa_cons pe_int pa_nil)))
      (pss_cons (ps_set (i := 5) sc_ahead_of_cycles.nd rfl (Or.inl rfl) pe_int)
      (pss_cons (ps_while PassesOwn.never (pt_cmpR op_lt (pv 5) (pe_callB (call_lenA (K := K) rfl) (by rfl) T.len PySem.boot_len (pa_cons (pv 4) pa_nil)) (nomark _)) (pss_cons (ps_for PassesOwn.never rfl (pi_anyK (K := K) rfl (pe_ix (ix_anyK (K := K) rfl) (pv 0) (pe_ix (ix_anyK (K := K) rfl) (pv 4) (pv 5) (fun _ _ => rfl)) (fun _ _ => rfl))) (pg_name (i := 3) sc_ahead_of_cycles.nd rfl (.inl rfl)) (pss_cons (ps_augS (pv 2) (pv 3) (get_list (K := K) rfl) pe_int ip_sub set_list)
      (pss_one (ps_if (pt_cmpR op_eq (pe_ix (ix_anyK (K := K) rfl) (pv 2) (pv 3) (fun _ _ => rfl)) pe_int (nomark _)) (pss_one (ps_expr (pe_bm PySem.F.plainAttrs_list PySem.F.slot_list_append PySem.F.type_list_append mt_append (pv 4) (pa_cons (pv 3) pa_nil)))) pss_nil))))
      (pss_one (ps_aug (i := 5) sc_ahead_of_cycles.nd rfl (Or.inl rfl) pe_int ip_add))))
      (pss_one (ps_ret (pv 4))))))))), ?_⟩
    have lrv := hW.len
    have lrn : rvs.length = M.n := lrv
    refine any_var rfl (xs := rvs) hR (fun J wk => ?_)
    intro B hB
    refine lc_all wk hB (by omega) (fun i y _ => ∀ rw_, M.rows[i]? = some rw_ → y = V.bl (decide (0 ∈ rw_))) (fun _ _ _ _ _ h => h) (fun H5 s5 => Sq.eqs hR s5 (Same.refl _)) ?_ ?_
    · rintro i x H5 H6 R N zs hi s5 eB ⟨rfl, ex⟩ k5
      obtain ⟨a, rw_, rfl, hrw, ha⟩ := hW.at ex
      refine ⟨rfl, yes_to ⟨_, rfl, a, _, rfl, (ha.same s5).any, rfl, flat_nV _, k5 _ _ (Same.refl _) ?_⟩⟩
      intro rw2 e2
      rw [hrw] at e2
      cases e2
      exact congrArg V.bl (inV_nV (n := 0))
    · intro ys H2 ly py s2 eB
      rw [lrv] at ly
      rw [list_maps ly py] at eB
      refine ⟨B, M.rows.map fun rw_ => decide (0 ∈ rw_), rfl, SqL.of (by rw [eB, List.map_map]; rfl), _, rfl, ite2 (fun z => ?_) (fun z => ?_)⟩
      · exact ⟨Nat.zero_le _, fun l hl => q l _ [] (same_new s2 hl) upd_same ZA.early_nil⟩
      · have no0 : ∀ rw_ ∈ M.rows, 0 ∉ rw_ := fun rw_ m h => z (by
          rw [List.any_eq_true]
          exact ⟨_, List.mem_map.mpr ⟨rw_, m, rfl⟩, by simpa using h⟩)
        refine un_next ⟨sz1, fun l hl => ⟨_, rfl, r, rvs, rfl, (Sq.same hR (same_new s2 hl)).any, l, _, _, rfl, rfl, upd_same, by omega, by omega, ?_, fun D hD => ?_⟩⟩
        · rw [Int.toNat_natCast]
          exact szM _ (by simp; omega)
        have s3 := same_new (o := .lst [.int 0]) s2 hl
        have s4 := same_new (o := .lst (List.replicate ((rvs.length : Nat) : Int).toNat [V.int 0]).flatten) s3 hD
        have hDH : H D = none := none_back s3 hD
        obtain ⟨H4, eH4⟩ : ∃ X, X = upd (upd H2 l (.lst [.int 0])) D (.lst (List.replicate ((rvs.length : Nat) : Int).toNat [V.int 0]).flatten) := ⟨_, rfl⟩
        have eD4 : H4 D = some (.lst ((List.range M.n).map fun t => V.int ((([] : List Nat).count t : Nat) : Int))) := by
          rw [eH4, upd_same, Int.toNat_natCast, rep_flat, lrn]
          congr 2
          refine List.ext_getElem (by simp) fun j h1 h2 => by simp
        rw [← eH4] at s4 ⊢
        refine normG (σ' := [some (.ref r), none, some (.ref D), none, none, none]) rfl ?_
        refine any_var rfl (xs := rvs) (Sq.same hR s4) (fun J1 wk1 => ?_)
        refine for_it wk1 (fun i σ H' => ∃ v1 v3, σ = [some (.ref r), v1, some (.ref D), v3, none, none] ∧ H' D = some (.lst ((List.range M.n).map fun t => V.int (((M.rows.take i).flatten.count t : Nat) : Int))) ∧ Same H H') ⟨_, _, rfl, by rw [List.take_zero]; exact eD4, s4⟩ (fun i σ H' _ ⟨_, _, _, _, s⟩ => Sq.eqs hR s s4) ?_ ?_
        · rintro i x σ H5 H6 hi ⟨v1, v3, rfl, eD5, s5⟩ ⟨rfl, ex⟩
          obtain ⟨a, rw_, rfl, hrw, ha⟩ := hW.at ex
          have lw := ok.wide i rw_ hrw
          have ha5 := ha.same s5
          refine normG (σ' := [some (.ref r), some (.ref a), some (.ref D), v3, none, none]) rfl ?_
          refine any_var rfl (xs := rw_.map nV) ha5 (fun J2 wk2 => ?_)
          refine for_it wk2 (fun c σ H' => ∃ v3, σ = [some (.ref r), some (.ref a), some (.ref D), v3, none, none] ∧ H' D = some (.lst ((List.range M.n).map fun t => V.int (((M.rows.take i).flatten.count t + (rw_.take c).count t : Nat) : Int))) ∧ Same H H') ⟨_, rfl, by simpa using eD5, s5⟩ (fun c σ H' _ ⟨_, _, _, s⟩ => ha.eqs s s5) ?_ ?_
          · rintro c x σ H7 H8 hc ⟨v3, rfl, eD7, s7⟩ ⟨rfl, ex7⟩
            obtain ⟨t, ht, rfl⟩ := map_at ex7
            have tn : t < M.n := ok.inn i rw_ t hrw (List.mem_of_getElem? ht)
            refine normG (σ' := [some (.ref r), some (.ref a), some (.ref D), some (nV t), none, none]) rfl ?_
            refine ⟨_, rfl, _, rfl, D, _, t, _, rfl, rfl, SqL.of eD7, range_at tn, _, _, rfl, rfl, D, _, _, t, rfl, rfl, eD7, ixN_at (by simpa using tn), ?_⟩
            refine ⟨_, rfl, ?_, same_upd s7 hDH⟩
            rw [upd_same, map_set tn (g := fun u => V.int (((M.rows.take i).flatten.count u + (rw_.take (c + 1)).count u : Nat) : Int))]
            · show V.int _ = V.int _
              rw [List.take_add_one, ht, List.count_append]
              simp
              omega
            · intro j hj
              show V.int _ = V.int _
              rw [List.take_add_one, ht, List.count_append]
              have : (Option.toList (some t)).count j = 0 := by
                rw [List.count_eq_zero]
                intro z
                exact hj (by simpa using z)
              rw [this]
              rfl
          · rintro σ H7 ⟨v3, rfl, eD7, s7⟩
            refine ⟨_, _, rfl, ?_, s7⟩
            rw [eD7]
            congr 2
            refine List.map_congr_left fun u hu => ?_
            have e : (M.rows.take (i + 1)).flatten.count u = (M.rows.take i).flatten.count u + rw_.count u := by
              rw [List.take_add_one, hrw, List.flatten_append, List.count_append]
              simp
            rw [e, List.length_map, List.take_length]
        · rintro σ H5 ⟨v1, v3, rfl, eD5, s5⟩
          rw [lrv, List.take_length] at eD5
          refine ⟨sz1, fun G hG => ?_⟩
          have s6 := same_new (o := .lst [.int 0]) s5 hG
          have nGD : G ≠ D := (ne_of_none eD5 hG).symm
          have hGH : H G = none := none_back s5 hG
          refine normG (σ' := [some (.ref r), v1, some (.ref D), v3, some (.ref G), none]) rfl ?_
          dsimp only
          refine normG (σ' := [some (.ref r), v1, some (.ref D), v3, some (.ref G), some (.int 0)]) rfl ?_
          refine while_by (fun σ H' => ∃ (v1 v3 : Option V) (X : List Nat) (at_ : Nat) (many : Nat → Int), σ = [some (.ref r), v1, some (.ref D), v3, some (.ref G), some (.int (at_ : Nat))] ∧ H' D = some (.lst ((List.range M.n).map fun t => V.int (many t))) ∧ H' G = some (.lst (X.map nV)) ∧ ZA.Ah M X at_ [] many ∧ at_ ≤ X.length ∧ Same H H')
            (fun σ _ => match σ with | [_, _, _, _, _, some (.int a)] => M.n - a.toNat | _ => 0) ⟨v1, v3, [0], 0, _, rfl, by rw [upd_ne nGD.symm]; exact eD5, by rw [upd_same]; rfl, ZA.ah_start n0 no0, Nat.zero_le _, s6⟩ ?_ ?_
          · rintro σ H7 ⟨v1, v3, X, at_, many, rfl, eD7, eG7, ah, la, s7⟩
            have few := ah.few
            refine ⟨_, rfl, _, rfl, G, _, rfl, .inl (SqL.of eG7), _, _, rfl, rfl, _, rfl, ite2 (fun z => ?_) (fun z => ?_)⟩
            · have z : at_ < X.length := by
                have := of_decide_eq_true z
                rw [List.length_map] at this
                omega
              obtain ⟨s, hs⟩ : ∃ s, X[at_]? = some s := ⟨_, List.getElem?_eq_getElem z⟩
              have sn := ah.inn s (List.mem_of_getElem? hs)
              obtain ⟨rw_, hrw⟩ : ∃ rw_, M.rows[s]? = some rw_ := ⟨_, List.getElem?_eq_getElem sn⟩
              obtain ⟨a, hra, ha⟩ := hW.get hrw
              refine any_get (a := a) (xs := rw_.map nV) (fun P q => ⟨_, rfl, _, rfl, _, rfl, G, _, _, _, rfl, rfl, .inl (SqL.of eG7), atN (by rw [List.getElem?_map, hs]; rfl), r, _, _, _, rfl, rfl, (Sq.same hR s7).any, atN hra, q⟩) (ha.same s7) (fun J2 wk2 => ?_)
              refine for_it wk2 (fun c σ H' => ∃ (v3 : Option V) (X : List Nat) (many : Nat → Int), σ = [some (.ref r), v1, some (.ref D), v3, some (.ref G), some (.int (at_ : Nat))] ∧ H' D = some (.lst ((List.range M.n).map fun t => V.int (many t))) ∧ H' G = some (.lst (X.map nV)) ∧ ZA.Ah M X at_ (rw_.take c) many ∧ at_ < X.length ∧ X[at_]? = some s ∧ Same H H')
                ⟨v3, X, many, rfl, eD7, eG7, by rw [List.take_zero]; exact ah, z, hs, s7⟩ (fun c σ H' _ ⟨_, _, _, _, _, _, _, _, _, s⟩ => ha.eqs s s7) ?_ ?_
              · rintro c x σ H8 H9 hc ⟨v3, X, many, rfl, eD8, eG8, ah8, z8, hs8, s8⟩ ⟨rfl, ex8⟩
                obtain ⟨t, ht, rfl⟩ := map_at ex8
                have tn : t < M.n := ok.inn s rw_ t hrw (List.mem_of_getElem? ht)
                have few8 := ah8.few
                refine normG (σ' := [some (.ref r), v1, some (.ref D), some (nV t), some (.ref G), some (.int (at_ : Nat))]) rfl ?_
                refine ⟨_, rfl, _, rfl, D, _, t, _, rfl, rfl, SqL.of eD8, range_at tn, _, _, rfl, rfl, D, _, _, t, rfl, rfl, eD8, ixN_at (by simpa using tn), ?_⟩
                have em := map_set (f := fun u => V.int (many u)) (g := fun u => V.int (if u = t then many t - 1 else many u)) (v := V.int (many t - 1)) tn (by simp) (fun j hj => by simp [hj])
                rw [em]
                obtain ⟨h1, h2⟩ := ah8.dec hs8 hrw ht
                have s9 := same_upd (o := .lst ((List.range M.n).map fun u => V.int (if u = t then many t - 1 else many u))) s8 hDH
                have eG9 : upd _ D (.lst ((List.range M.n).map fun u => V.int (if u = t then many t - 1 else many u))) G = _ := (upd_ne nGD).trans eG8
                refine ⟨_, rfl, _, rfl, D, _, _, _, rfl, rfl, .inl (SqL.of upd_same), atN (range_at tn), rfl, _, rfl, ite2 (fun y => ?_) (fun y => ?_)⟩
                · have y : many t - 1 = 0 := by
                    have := of_decide_eq_true y
                    injection this with this
                    simpa using this
                  refine ⟨_, rfl, .inl ⟨rfl, _, SqL.of eG9⟩, _, rfl, G, _, _, rfl, rfl, eG9, szL _ (by rw [List.length_map]; omega), ?_⟩
                  refine ⟨_, X ++ [t], _, rfl, by rw [upd_ne nGD.symm, upd_same], by rw [upd_same, List.map_append]; rfl, h2 tn y, by rw [List.length_append]; omega, by rw [List.getElem?_append_left z8]; exact hs8, same_upd s9 hGH⟩
                · have y : many t - 1 ≠ 0 := fun e => y (decide_eq_true (by simp [e]))
                  exact un_next ⟨_, X, _, rfl, upd_same, eG9, h1 y, z8, hs8, s9⟩
              · rintro σ H8 ⟨v3, X, many, rfl, eD8, eG8, ah8, z8, hs8, s8⟩
                rw [List.length_map, List.take_length] at ah8
                refine ⟨_, rfl, _, _, rfl, rfl, ?_⟩
                have few8 := ah8.few
                refine ⟨⟨v1, v3, X, at_ + 1, many, rfl, eD8, eG8, ah8.turn hs8 hrw, z8, s8⟩, ?_⟩
                show M.n - ((at_ : Int) + 1).toNat < M.n - (at_ : Int).toNat
                omega
            · have z : at_ = X.length := by
                have h1 : ¬ ((at_ : Int) < ((X.map nV).length : Int)) := fun y => z (decide_eq_true y)
                rw [List.length_map] at h1
                omega
              exact ⟨_, rfl, q G H7 X s7 eG7 ah.done⟩
          · rintro σ H2 Q1 Q2 hq ⟨x, hx, y, hy, p, ys, e1, e2, i, j, e3, e4, b, e5, z⟩
            exact ⟨x, hx, y, hy, p, ys, e1, e2, i, j, e3, e4, b, e5, hq _ _ z⟩
end
end K01
set_option maxHeartbeats 4000000
namespace K01
open PySem PySem.Spec PyProof.Rows L2 Z
def spWithout : Sp := fun vs H Q _ => ∃ (r g : Addr) (rows : List (List Nat)) (E : List Nat), vs = [.ref r, .ref g] ∧ RowsAt H r rows ∧ H g = some (.lst (E.map nV)) ∧ (∀ x ∈ E, x < rows.length) ∧ rows.length ≤ 400 ∧
  ∀ t k p H', Same H H' → H' t = some (.tup [.ref k, .ref p]) → H' k = some (.lst ((keptOf rows.length E).map nV)) → H' p = some (.lst ((List.range rows.length).map fun s => nV (posOf rows.length E s))) → Q (.ref t) H'
section
variable {P : Program} {w : World} {K : PySem.W.Frag} {mg : Str → Option Value} {base : Heap}
theorem sc_without_states : FnScope ["rows", "gone", "is_gone", "state", "kept", "place", "at"] ["rows", "gone"] (defScope s_without_states) := ⟨rfl, rfl, rfl, by decide +kernel, rfl, by decide +kernel, by decide +kernel⟩
theorem ok_without {f : Addr} {fd : FuncData} (F : FnP K "without_states" s_without_states f fd) (T : Nb mg) : FnOk P w K mg base CX0 1 f fd ["rows", "gone"] spWithout := by
  refine F.ok sc_without_states (fun vs H Q E h => ?_) (fun cdv A outer s H vs Q E hr h => ?_)
  · obtain ⟨r, g, rows, X, rfl, _⟩ := h
    rfl
  · obtain ⟨r, g, rows, X, rfl, ⟨rvs, hR, hW⟩, hG, inn, hn, q⟩ := h
    refine ⟨_, PSs.nox (pss_cons (ps_set (i := 2) sc_without_states.nd rfl (Or.inr rfl) (pe_op op_rep (pe_lst (pa_cons pe_bl pa_nil)) (pe_callB (call_lenA (K := K) rfl) (by rfl) T.len PySem.boot_len (pa_cons (pv 0) pa_nil))))
      (pss_cons (ps_for PassesOwn.never rfl (pi_anyK (K := K) rfl (pv 1)) (pg_name (i := 3) sc_without_states.nd rfl (.inl rfl)) (pss_one (ps_asg pe_bl (pg_sub (pv 2) (pv 3) set_list))))
      (pss_cons (ps_setLc (i := 4) (own := [("state", 3)]) (g := gName 3) rfl sc_without_states.nd rfl rfl (sw_true rfl rfl rfl (by decide +kernel)) (pi_range1 (by rfl) T.range (pa_cons (pe_callB (call_lenA (K := K) rfl) (by rfl) T.len PySem.boot_len (pa_cons (pv 0) pa_nil)) pa_nil)) (blkOk_by (N := ["rows", "gone", "is_gone", "state", "kept", "place", "at"]) (sc := defScope s_without_states) (by decide +kernel)) (fun _ _ _ _ _ => (pg_name (i := 3) sc_without_states.nd rfl (.inl rfl))) (fun _ _ _ _ _ => (pts_one (pt_not (pt_val (pe_ix (ix_anyK (K := K) rfl) (pv 2) (pv 3) (fun _ _ => rfl)))))) (fun _ _ _ _ _ => (pv 3)))
      (pss_cons (ps_set (i := 5) sc_without_states.nd rfl (Or.inl rfl) (pe_op op_rep (pe_lst (pa_cons pe_int pa_nil)) (pe_callB (call_lenA (K := K) rfl) (by rfl) T.len PySem.boot_len (pa_cons (pv 0) pa_nil))))
      (pss_cons (ps_for PassesOwn.never rfl (pi_enum (by rfl) T.enumerate (pa_cons (pv 4) pa_nil)) (pg_tup (by rfl) (pgs_cons (pg_name (i := 6) sc_without_states.nd rfl (.inl rfl)) (pgs_cons (pg_name (i := 3) sc_without_states.nd rfl (.inl rfl)) pgs_nil))) (pss_one (ps_asg (pv 6) (pg_sub (pv 5) (pv 3) set_list))))
      (pss_one (ps_ret (pe_tup (pa_cons (pv 4) (pa_cons (pv 5) pa_nil)))))))))), ?_⟩
    obtain ⟨n, en⟩ : ∃ n, n = rows.length := ⟨_, rfl⟩
    have lrn : rvs.length = n := by rw [en]; exact hW.len
    rw [← en] at inn hn q
    refine ⟨sz1, fun l hl => ⟨_, rfl, r, rvs, rfl, (Sq.same hR (same_new (Same.refl _) hl)).any, l, _, _, rfl, rfl, upd_same, by omega, by omega, ?_, fun D hD => ?_⟩⟩
    · rw [Int.toNat_natCast]
      exact szM _ (by simp; omega)
    have s3 := same_new (o := .lst [.bl false]) (Same.refl H) hl
    have s4 := same_new (o := .lst (List.replicate ((rvs.length : Nat) : Int).toNat [V.bl false]).flatten) s3 hD
    have hDH : H D = none := none_back s3 hD
    obtain ⟨H4, eH4⟩ : ∃ X, X = upd (upd H l (.lst [.bl false])) D (.lst (List.replicate ((rvs.length : Nat) : Int).toNat [V.bl false]).flatten) := ⟨_, rfl⟩
    have eD4 : H4 D = some (.lst ((List.range n).map fun t => V.bl (decide (t ∈ X.take 0)))) := by
      rw [eH4, upd_same, Int.toNat_natCast, rep_flat, lrn]
      congr 2
      refine List.ext_getElem (by simp) fun j h1 h2 => by simp
    rw [← eH4] at s4 ⊢
    refine normG (σ' := [some (.ref r), some (.ref g), some (.ref D), none, none, none, none]) rfl ?_
    refine any_var rfl (xs := X.map nV) (.inl (s4 _ _ hG)) (fun J1 wk1 => ?_)
    refine for_it wk1 (fun i σ H' => ∃ v3, σ = [some (.ref r), some (.ref g), some (.ref D), v3, none, none, none] ∧ H' D = some (.lst ((List.range n).map fun t => V.bl (decide (t ∈ X.take i)))) ∧ Same H H') ⟨_, rfl, eD4, s4⟩ (fun i σ H' _ ⟨_, _, _, s⟩ => by rw [s _ _ hG, s4 _ _ hG]) ?_ ?_
    · rintro i x σ H5 H6 hi ⟨v3, rfl, eD5, s5⟩ ⟨rfl, ex⟩
      obtain ⟨t, ht, rfl⟩ := map_at ex
      have tn := inn t (List.mem_of_getElem? ht)
      refine normG (σ' := [some (.ref r), some (.ref g), some (.ref D), some (nV t), none, none, none]) rfl ?_
      refine ⟨_, rfl, _, rfl, D, _, _, t, rfl, rfl, eD5, ixN_at (by simpa using tn), ?_⟩
      refine ⟨_, rfl, ?_, same_upd s5 hDH⟩
      rw [upd_same, map_set tn (g := fun u => V.bl (decide (u ∈ X.take (i + 1))))]
      · show V.bl _ = V.bl _
        rw [List.take_add_one, ht]
        simp
      · intro j hj
        show V.bl _ = V.bl _
        rw [List.take_add_one, ht]
        simp [hj]
    · rintro σ H5 ⟨v3, rfl, eD5, s5⟩
      rw [List.length_map, List.take_length] at eD5
      have lr2 : ((rvs.length : Nat) : Int).toNat = n := by rw [Int.toNat_natCast, lrn]
      refine ⟨_, rfl, r, rvs, rfl, (Sq.same hR s5).any, _, rfl, by omega, by omega, fun D2 hD2 => ?_⟩
      rw [lr2]
      refine lc_it walk_range (fun i Hc => Hc D2 = some (.lst ((keptOf i X).map nV)) ∧ Same H5 Hc) ⟨upd_same, same_new (Same.refl _) hD2⟩ (fun _ _ _ _ => trivial) ?_ ?_
      · rintro i x Hc Hc' hi ⟨eD2, sc⟩ ⟨rfl, rfl⟩
        have eDc := sc _ _ eD5
        dsimp only
        rw [Int.zero_add]
        refine ⟨rfl, _, rfl, _, rfl, D, _, _, _, rfl, rfl, .inl (SqL.of eDc), atN (range_at hi), _, rfl, ?_⟩
        have step : keptOf (i + 1) X = keptOf i X ++ if i ∈ X then [] else [i] := by
          unfold keptOf
          rw [List.range_succ, List.filter_append]
          congr 1
          by_cases z : i ∈ X <;> simp [z]
        refine ite2 (fun z => ?_) (fun z => ?_)
        · have z : i ∉ X := by simpa using z
          refine ⟨_, rfl, _, eD2, szL _ ?_, ?_, same_upd sc hD2⟩
          · rw [List.length_map]
            have := List.length_filter_le (fun s => decide (s ∉ X)) (List.range i)
            rw [List.length_range] at this
            exact Nat.lt_of_le_of_lt this (by omega)
          · rw [upd_same, step, if_neg z, List.map_append]
            rfl
        · have z : i ∈ X := by simpa using z
          rw [step, if_pos z, List.append_nil]
          exact ⟨eD2, sc⟩
      · rintro H6 ⟨eD6, s6⟩
        have kn : (keptOf n X).length ≤ n := by
          have := List.length_filter_le (fun s => decide (s ∉ X)) (List.range n)
          rw [List.length_range] at this
          exact this
        have s56 := s5.trans s6
        refine normG (σ' := [some (.ref r), some (.ref g), some (.ref D), v3, some (.ref D2), none, none]) rfl ?_
        refine ⟨sz1, fun l2 hl2 => ⟨_, rfl, r, rvs, rfl, (Sq.same hR (same_new s56 hl2)).any, l2, _, _, rfl, rfl, upd_same, by omega, by omega, ?_, fun D3 hD3 => ?_⟩⟩
        · rw [Int.toNat_natCast]
          exact szM _ (by simp; omega)
        have s7 := same_new (o := .lst [.int 0]) (Same.refl H6) hl2
        have s8 := same_new (o := .lst (List.replicate ((rvs.length : Nat) : Int).toNat [V.int 0]).flatten) s7 hD3
        have hD3H : H6 D3 = none := none_back s7 hD3
        obtain ⟨H8, eH8⟩ : ∃ X, X = upd (upd H6 l2 (.lst [.int 0])) D3 (.lst (List.replicate ((rvs.length : Nat) : Int).toNat [V.int 0]).flatten) := ⟨_, rfl⟩
        have eD8 : H8 D3 = some (.lst ((List.range n).map fun s => nV (if s ∈ (keptOf n X).take 0 then posOf n X s else 0))) := by
          rw [eH8, upd_same, lr2, rep_flat]
          congr 2
          refine List.ext_getElem (by simp) fun j h1 h2 => by simp [nV]
        rw [← eH8] at s8 ⊢
        have eK8 := s8 _ _ eD6
        refine normG (σ' := [some (.ref r), some (.ref g), some (.ref D), v3, some (.ref D2), some (.ref D3), none]) rfl ?_
        refine ⟨_, rfl, D2, _, rfl, SqL.of eK8, ?_⟩
        refine for_it (walk_enum (K := K) (a := D2) (xs := (keptOf n X).map nV)) (fun i σ H' => ∃ v3 v6, σ = [some (.ref r), some (.ref g), some (.ref D), v3, some (.ref D2), some (.ref D3), v6] ∧ H' D3 = some (.lst ((List.range n).map fun s => nV (if s ∈ (keptOf n X).take i then posOf n X s else 0))) ∧ Same H6 H')
          ⟨_, _, rfl, eD8, s8⟩ (fun i σ H' _ ⟨_, _, _, _, s⟩ => SqL.of (s _ _ eD6)) ?_ ?_
        · rintro i x σ H9 H10 hi ⟨v3, v6, rfl, eD9, s9⟩ ⟨U, x, y, rfl, hU, rfl, ex, ey⟩
          cases ex
          obtain ⟨t, ht, rfl⟩ := map_at ey
          have tn := (kept_mem.mp (List.mem_of_getElem? ht)).1
          have sU : Same H9 (upd H9 U (.tup [.int (i : Int), nV t])) := same_new (Same.refl _) hU
          have eD10 := sU _ _ eD9
          refine ⟨U, _, rfl, SqT.of upd_same, rfl, _, _, rfl, _, _, rfl, rfl, ?_⟩
          refine norm (N := fun σ _ => _) (σ' := [some (.ref r), some (.ref g), some (.ref D), some (nV t), some (.ref D2), some (.ref D3), some (.int (i : Int))]) rfl ?_
          refine ⟨_, rfl, _, rfl, _, rfl, D3, _, _, t, rfl, rfl, eD10, ixN_at (by simpa using tn), ?_⟩
          refine ⟨_, _, rfl, ?_, same_upd (s9.trans sU) hD3H⟩
          rw [upd_same, map_set tn (g := fun s => nV (if s ∈ (keptOf n X).take (i + 1) then posOf n X s else 0))]
          · have m : t ∈ (keptOf n X).take (i + 1) := by
              rw [List.take_add_one, ht]
              simp
            show V.int _ = V.int _
            rw [if_pos m, pos_at ht]
          · intro j hj
            show V.int _ = V.int _
            rw [List.take_add_one, ht]
            simp [hj]
        · rintro σ H9 ⟨v3, v6, rfl, eD9, s9⟩
          rw [List.length_map, List.take_length] at eD9
          refine ⟨_, rfl, _, rfl, sz2, fun t ht => ?_⟩
          have s10 := same_new (o := .tup [.ref D2, .ref D3]) (Same.refl H9) ht
          refine q t D2 D3 _ ((s56.trans s9).trans s10) upd_same (s10 _ _ (s9 _ _ eD6)) ?_
          rw [s10 _ _ eD9]
          congr 2
          refine List.map_congr_left fun s _ => ?_
          by_cases z : s ∈ keptOf n X
          · rw [if_pos z]
          · rw [if_neg z]
            unfold posOf
            rw [if_neg z]
end
end K01
set_option maxHeartbeats 4000000
namespace K01
open PySem PySem.Spec PyProof.Rows L2 Z
theorem u10 {k : Nat} {A : Around} (h : Room k A) : A.units + 10 < cLine := by have := h.units; omega
def spClasses : Sp := fun vs H Q _ => ∃ (r e : Addr) (A : ZA.Aut) (most : Int), vs = [.ref r, .ref e, .int most] ∧ RowsAt H r A.rows ∧ EndsAt H e A.ends ∧ A.Ok ∧ 0 < A.n ∧ A.n ≤ 400 ∧ A.w ≤ 1000 ∧ (A.n : Int) ≤ most ∧
  ∀ l H' m, Same H H' → H' l = some (.lst ((List.range A.n).map fun s => .int (m s))) → ZA.Marks A m → Q (.ref l) H'
theorem nv_kE {A : ZA.Aut} {m : Nat → Int} {s : Nat} {H : Hp} {t : Addr} (h : H t = some (.tup (.bl (A.endAt s) :: (List.range A.w).map fun c => .int (m (A.to s c))))) : MixD.NV H (kE A m s) (.ref t) := by
  refine .tup h (nvs_get (by simp [kL]) fun j v i ej ei => ?_)
  cases j with
  | zero =>
    cases (Option.some.inj ej)
    cases (Option.some.inj ei)
    exact .bl rfl
  | succ j =>
    have ej : ((List.range A.w).map fun c => V.int (m (A.to s c)))[j]? = some v := ej
    have ei : ((List.range A.w).map fun c => m (A.to s c))[j]? = some i := ei
    have hj : j < A.w := by
      have := (List.getElem?_eq_some_iff.mp ej).1
      simpa using this
    rw [range_at hj] at ej
    cases ej
    rw [List.getElem?_map, List.getElem?_range hj] at ei
    cases ei
    exact .int _
section
variable {P : Program} {w : World} {K : PySem.W.Frag} {mg : Str → Option Value} {base : Heap}
theorem sc_classes_of : FnScope ["rows", "ends", "most", "early", "kept", "place", "found", "then", "state", "marks", "mark", "table", "key"] ["rows", "ends", "most"] (defScope s_classes_of) := ⟨rfl, rfl, rfl, by decide +kernel, rfl, by decide +kernel, by decide +kernel⟩
theorem ok_classes {f : Addr} {fd : FuncData} (F : FnP K "classes_of" s_classes_of f fd) (T : Nb mg) (dAhead : Dn P w K mg base 1 "ahead_of_cycles" ["rows"] spAhead) (dRefined : Dn P w K mg base 1 "refined" ["rows", "marks", "most"] spRefined) (dWithout : Dn P w K mg base 1 "without_states" ["rows", "gone"] spWithout) :
    FnOk P w K mg base CX0 2 f fd ["rows", "ends", "most"] spClasses := by
  refine F.ok sc_classes_of (fun vs H Q E h => ?_) (fun cdv A outer s H vs Q E hr h => ?_)
  · obtain ⟨r, e, M, most, rfl, _⟩ := h
    rfl
  · obtain ⟨r, e, M, most, rfl, hRows, hE, ok, n0, hn, hw, hm, q⟩ := h
    have hu9 := u9 hr
    have hu10 := u10 hr
    refine ⟨_, PSs.nox (pss_cons (ps_set (i := 3) sc_classes_of.nd rfl (Or.inl rfl) (pe_dn dAhead hr (pa_cons (pv 0) pa_nil)))
      (pss_cons (ps_if (pt_not (pt_truth (pv 3) (by intro _; rfl))) (pss_one (ps_ret (pe_dn dRefined hr (pa_cons (pv 0) (pa_cons (pv 1) (pa_cons (pv 2) pa_nil)))))) pss_nil)
      (pss_cons (ps_asg (pe_dn dWithout hr (pa_cons (pv 0) (pa_cons (pv 3) pa_nil))) (pg_tup (by rfl) (pgs_cons (pg_name (i := 4) sc_classes_of.nd rfl (.inl rfl)) (pgs_cons (pg_name (i := 5) sc_classes_of.nd rfl (.inr rfl)) pgs_nil))))
      (pss_cons (ps_set (i := 6) sc_classes_of.nd rfl (Or.inl rfl) (pe_dn dRefined hr (pa_cons (pe_lc (own := [("state", 8)]) (g := gName 8) (tt := tYes) rfl sc_classes_of.nd (pi_anyK (K := K) rfl (pv 4)) (blkOk_by (N := ["rows", "ends", "most", "early", "kept", "place", "found", "then", "state", "marks", "mark", "table", "key"]) (sc := defScope s_classes_of) (by decide +kernel)) (fun _ _ _ _ _ => (pg_name (i := 8) sc_classes_of.nd rfl (.inl rfl))) (fun _ _ _ _ _ => pts_nil) (fun _ _ _ _ _ => (pe_lc (own := [("then", 7)]) (g := gName 7) (tt := tYes) rfl sc_classes_of.nd (pi_anyK (K := K) rfl (pe_ix (ix_anyK (K := K) rfl) (pv 0) (pv 8) (fun _ _ => rfl))) (blkOk_by (N := ["rows", "ends", "most", "early", "kept", "place", "found", "then", "state", "marks", "mark", "table", "key"]) (by rfl)) (fun _ _ _ _ _ => (pg_name (i := 7) sc_classes_of.nd rfl (.inl rfl))) (fun _ _ _ _ _ => pts_nil) (fun _ _ _ _ _ => (pe_ix (ix_anyK (K := K) rfl) (pv 5) (pv 7) (fun _ _ => rfl)))))) (pa_cons (pe_lc (own := [("state", 8)]) (g := gName 8) (tt := tYes) rfl sc_classes_of.nd (pi_anyK (K := K) rfl (pv 4)) (blkOk_by (N := ["rows", "ends", "most", "early", "kept", "place", "found", "then", "state", "marks", "mark", "table", "key"]) (sc := defScope s_classes_of) (by decide +kernel)) (fun _ _ _ _ _ => (pg_name (i := 8) sc_classes_of.nd rfl (.inl rfl))) (fun _ _ _ _ _ => pts_nil) (fun _ _ _ _ _ => (pe_ix (ix_anyK (K := K) rfl) (pv 1) (pv 8) (fun _ _ => rfl)))) (pa_cons (pv 2) pa_nil)))))
      (pss_cons (ps_if (pt_cmpR op_isN (pv 6) pe_non (nomark _)) (pss_one (ps_ret pe_non)) pss_nil)
      (pss_cons (ps_set (i := 9) sc_classes_of.nd rfl (Or.inr rfl) (pe_op op_rep (pe_lst (pa_cons pe_int pa_nil)) (pe_callB (call_lenA (K := K) rfl) (by rfl) T.len PySem.boot_len (pa_cons (pv 0) pa_nil))))
      (pss_cons (ps_for PassesOwn.never rfl (pi_zip (by rfl) T.zip (pa_cons (pv 4) (pa_cons (pv 6) pa_nil))) (pg_tup (by rfl) (pgs_cons (pg_name (i := 8) sc_classes_of.nd rfl (.inl rfl)) (pgs_cons (pg_name (i := 10) sc_classes_of.nd rfl (.inl rfl)) pgs_nil))) (pss_one (ps_asg (pv 10) (pg_sub (pv 9) (pv 8) set_list))))
      (pss_cons (ps_set (i := 11) sc_classes_of.nd rfl (Or.inl rfl) MixD.pe_xnew)
      (pss_cons (ps_for PassesOwn.never rfl (pi_anyK (K := K) rfl (pv 4)) (pg_name (i := 8) sc_classes_of.nd rfl (.inl rfl)) (pss_cons (ps_set (i := 12) sc_classes_of.nd rfl (Or.inl rfl) (pe_tup (pa_cons (pe_ix (ix_anyK (K := K) rfl) (pv 1) (pv 8) (fun _ _ => rfl)) (StX.pa_star (pe_lc (own := [("then", 7)]) (g := gName 7) (tt := tYes) rfl sc_classes_of.nd (pi_anyK (K := K) rfl (pe_ix (ix_anyK (K := K) rfl) (pv 0) (pv 8) (fun _ _ => rfl))) (blkOk_by (N := ["rows", "ends", "most", "early", "kept", "place", "found", "then", "state", "marks", "mark", "table", "key"]) (sc := defScope s_classes_of) (by decide +kernel)) (fun _ _ _ _ _ => (pg_name (i := 7) sc_classes_of.nd rfl (.inl rfl))) (fun _ _ _ _ _ => pts_nil) (fun _ _ _ _ _ => (pe_ix (ix_anyK (K := K) rfl) (pv 9) (pv 7) (fun _ _ => rfl)))) pa_nil))))
      (pss_one (MixD.ps_xput hu9 (pv 11) (pv 12) (pe_ix (ix_anyK (K := K) rfl) (pv 9) (pv 8) (fun _ _ => rfl)) rfl))))
      (pss_cons (ps_for PassesOwn.never rfl (pi_reversed (by rfl) T.reversed (pa_cons (pv 3) pa_nil)) (pg_name (i := 8) sc_classes_of.nd rfl (.inl rfl)) (pss_cons (ps_set (i := 12) sc_classes_of.nd rfl (Or.inl rfl) (pe_tup (pa_cons (pe_ix (ix_anyK (K := K) rfl) (pv 1) (pv 8) (fun _ _ => rfl)) (StX.pa_star (pe_lc (own := [("then", 7)]) (g := gName 7) (tt := tYes) rfl sc_classes_of.nd (pi_anyK (K := K) rfl (pe_ix (ix_anyK (K := K) rfl) (pv 0) (pv 8) (fun _ _ => rfl))) (blkOk_by (N := ["rows", "ends", "most", "early", "kept", "place", "found", "then", "state", "marks", "mark", "table", "key"]) (sc := defScope s_classes_of) (by decide +kernel)) (fun _ _ _ _ _ => (pg_name (i := 7) sc_classes_of.nd rfl (.inl rfl))) (fun _ _ _ _ _ => pts_nil) (fun _ _ _ _ _ => (pe_ix (ix_anyK (K := K) rfl) (pv 9) (pv 7) (fun _ _ => rfl)))) pa_nil))))
      (pss_one (ps_asg (pe_bmx (w := w) rfl PySem.F.plainAttrs_dict PySem.F.slot_dict_setdefault PySem.F.type_dict_setdefault (MixD.mt_setdefX hu10) (pv 11) (pa_cons (pv 12) (pa_cons (pe_op op_sub (pe_un un_neg pe_int) (pv 8)) pa_nil))) (pg_sub (pv 9) (pv 8) set_list)))))
      (pss_one (ps_ret (pe_ifExp (pt_cmpR op_le (pe_callB MixD.call_lenX (by rfl) T.len PySem.boot_len (pa_cons (pv 11) pa_nil)) (pv 2) (nomark _)) (pv 9) pe_non))))))))))))), ?_⟩
    obtain ⟨rvs, hR, hW⟩ := id hRows
    have lrn : rvs.length = M.n := hW.len
    have entAt : ∀ {H'}, Same H H' → ∀ s, s < M.n → ∃ bs, (SqL K H' e bs ∨ SqT K H' e bs) ∧ bs[s]? = some (.bl (M.endAt s)) := fun s' s hs => ⟨_, (Sq.same hE s').any, by rw [List.getElem?_map, end_get ok hs]; rfl⟩
    have rowAt : ∀ s, s < M.n → ∃ a, rvs[s]? = some (.ref a) ∧ Sq H a ((M.rows.getD s []).map nV) := fun s hs => hW.get (row_get hs)
    refine ⟨_, rfl, r, M, rfl, hRows, ok, n0, hn, hw, fun le H1 X s1 hX ea => ?_⟩
    refine normG (σ' := [some (.ref r), some (.ref e), some (.int most), some (.ref le), none, none, none, none, none, none, none, none, none]) rfl ?_
    refine ⟨_, rfl, !X.isEmpty, .inl ⟨_, SqL.of hX, by cases X <;> rfl⟩, ?_⟩
    refine ite2 (fun z => ?_) (fun z => ?_)
    · refine ⟨_, rfl, _, rfl, _, rfl, r, e, M, _, _, most, rfl, hRows.same s1, ends_marks (Sq.same hE s1) ok, rough_ends ok, ok, n0, hn, hw, hm, fun l H2 m' s2 h2 mk _ => q l H2 m' (s1.trans s2) h2 mk⟩
    · have hXn : X ≠ [] := fun y => by
        rw [y] at z
        exact z rfl
      have few := kept_few ea.nd ea.inn
      have kpos := sub_pos ok ea hXn
      refine un_next ⟨_, rfl, _, rfl, r, le, M.rows, X, rfl, hRows.same s1, hX, ea.inn, hn, fun t lk lp H2 s2 ht hk hp => ?_⟩
      have s12 := s1.trans s2
      refine ⟨t, _, rfl, SqT.of ht, rfl, _, _, rfl, _, _, rfl, rfl, ?_⟩
      refine norm (N := fun σ _ => _) (σ' := [some (.ref r), some (.ref e), some (.int most), some (.ref le), some (.ref lk), some (.ref lp), none, none, none, none, none, none, none]) rfl ?_
      obtain ⟨kp, ekp⟩ : ∃ kp, kp = keptOf M.n X := ⟨_, rfl⟩
      have hk : H2 lk = some (.lst (kp.map nV)) := by rw [ekp]; exact hk
      have hp : H2 lp = some (.lst ((List.range M.n).map fun s => nV (posOf M.n X s))) := hp
      have kmem : ∀ {i s : Nat}, kp[i]? = some s → s < M.n := fun e' => (kept_mem.mp (by rw [← ekp]; exact List.mem_of_getElem? e')).1
      have lkp : kp.length ≤ 400 := by rw [ekp]; omega
      -- the rows of the part
      refine any_var rfl (xs := kp.map nV) (.inl hk) (fun J wk => ?_)
      intro D hD
      refine lc_all wk hD (by rw [List.length_map]; omega) (fun i y H' => ∃ a' s, kp[i]? = some s ∧ y = V.ref a' ∧ a' ≠ D ∧ H' a' = some (.lst (((M.rows.getD s []).map (posOf M.n X)).map nV))) (fun i y H5 H6 k5 ⟨a', s, e1, e2, e3, e4⟩ => ⟨a', s, e1, e2, e3, k5 _ _ e3 e4⟩) (fun H5 s5 => by rw [s5 _ _ hk, hk]) ?_ ?_
      · rintro i x H5 H6 R N zs hi s5 eD ⟨rfl, ex⟩ k5
        obtain ⟨s, hs, rfl⟩ := map_at ex
        have sn := kmem hs
        obtain ⟨a, hra, ha⟩ := rowAt s sn
        refine ⟨rfl, yes_to ?_⟩
        refine any_get (a := a) (xs := (M.rows.getD s []).map nV) (fun P q => ⟨_, rfl, _, rfl, r, _, _, _, rfl, rfl, (Sq.same hR (s12.trans s5)).any, atN hra, q⟩) (ha.same (s12.trans s5)) (fun J2 wk2 => ?_)
        intro D3 hD3
        have lrw := ok.wide s _ (row_get sn)
        refine lc_all wk2 hD3 (by rw [List.length_map, lrw]; omega) (fun c y _ => ∀ t, (M.rows.getD s [])[c]? = some t → y = nV (posOf M.n X t)) (fun _ _ _ _ _ h => h) (fun H8 s8 => ha.eqs ((s12.trans s5).trans s8) (s12.trans s5)) ?_ ?_
        · rintro c x H7 H8 R2 N2 zs2 hj s7 eD3 ⟨rfl, ex2⟩ k7
          obtain ⟨t, ht, rfl⟩ := map_at ex2
          have tn := ok.inn s _ t (row_get sn) (List.mem_of_getElem? ht)
          refine ⟨rfl, yes_to ⟨_, rfl, _, rfl, lp, _, _, _, rfl, rfl, .inl (SqL.of (s7 _ _ (s5 _ _ hp))), atN (range_at tn), k7 _ _ (Same.refl _) ?_⟩⟩
          intro t' ht'
          rw [ht] at ht'
          cases ht'
          rfl
        · intro ys2 H7 ly7 py7 s7 eD3
          rw [List.length_map] at ly7
          have := list_maps (f := fun t => nV (posOf M.n X t)) ly7 py7
          exact k5 _ _ s7 ⟨D3, s, hs, rfl, (ne_of_none eD hD3).symm, by rw [eD3, this, List.map_map]; rfl⟩
      · intro bs H3 lb pb s3 eD3
        rw [List.length_map] at lb
        have hk3 := s3 _ _ hk
        -- the ends of the part
        refine any_var rfl (xs := kp.map nV) (.inl hk3) (fun J2 wk2 => ?_)
        intro D4 hD4
        refine lc_all wk2 hD4 (by rw [List.length_map]; omega) (fun i y _ => ∀ s, kp[i]? = some s → y = V.bl (M.endAt s)) (fun _ _ _ _ _ h => h) (fun H5 s5 => by rw [s5 _ _ hk3, hk3]) ?_ ?_
        · rintro i x H5 H6 R N zs hi s5 eD ⟨rfl, ex⟩ k5
          obtain ⟨s, hs, rfl⟩ := map_at ex
          obtain ⟨bs2, hb, hbs⟩ := entAt ((s12.trans s3).trans s5) s (kmem hs)
          refine ⟨rfl, yes_to ⟨_, rfl, _, rfl, e, _, _, _, rfl, rfl, hb, atN hbs, k5 _ _ (Same.refl _) ?_⟩⟩
          intro s' hs'
          rw [hs] at hs'
          cases hs'
          rfl
        · intro es H4 le4 pe4 s4 eD4
          rw [List.length_map] at le4
          rw [list_maps le4 pe4] at eD4
          have sB := sub_ok ok ea
          have nB := sub_n (A := M) (E := X)
          have rB : RowsAt H4 D (subA M X).rows := ⟨bs, .inl (s4 _ _ eD3), (RwA.of (by rw [lb, ekp]; exact nB.symm) fun i v rr ev er => by
            obtain ⟨a', s, e1, rfl, _, e4⟩ := pb i v ev
            have er2 := sub_row (A := M) (E := X) (i := i) (s := s) (by rw [← ekp]; exact e1)
            rw [er2] at er
            cases er
            exact ⟨a', rfl, .inl e4⟩).same s4⟩
          have eB : EndsAt H4 D4 (subA M X).ends := .inl (by
            rw [eD4, ekp]
            congr 2
            show _ = ((keptOf M.n X).map M.endAt).map V.bl
            rw [List.map_map]
            rfl)
          have nBl : (subA M X).n = kp.length := by rw [nB, ekp]
          refine ⟨_, rfl, D, D4, subA M X, _, _, most, rfl, rB, ends_marks eB sB, rough_ends sB, sB, by rw [nB]; exact kpos, by rw [nBl]; omega, hw, by rw [nBl, ekp]; omega, fun lf H5 mB s5 hf mkB nnB => ?_⟩
          rw [nBl] at hf
          refine normG (σ' := [some (.ref r), some (.ref e), some (.int most), some (.ref le), some (.ref lk), some (.ref lp), some (.ref lf), none, none, none, none, none, none]) rfl ?_
          have s15 := ((s12.trans s3).trans s4).trans s5
          refine ⟨_, rfl, rfl, _, rfl, if_no rfl (un_next ?_)⟩
          have hk5 : H5 lk = some (.lst (kp.map nV)) := s5 _ _ (s4 _ _ hk3)
          have hX5 : H5 le = some (.lst (X.map nV)) := s5 _ _ (s4 _ _ (s3 _ _ (s2 _ _ hX)))
          obtain ⟨m1, em1⟩ : ∃ m1 : Nat → Int, m1 = fun s => if s ∈ kp then mB (posOf M.n X s) else 0 := ⟨_, rfl⟩
          have m1k : ∀ s, s ∈ kp → m1 s = mB (posOf M.n X s) := fun s hs => by rw [em1]; exact if_pos hs
          have on1 : ZA.MarksOn M (fun s => s ∈ kp) m1 := by
            have o := kept_on ok ea mkB
            rw [← ekp] at o
            exact ⟨o.inn, o.go, fun s t hs ht => by rw [m1k s hs, m1k t ht]; exact o.iff s t hs ht⟩
          have nn1 : ∀ s, s ∈ kp → 0 ≤ m1 s := fun s hs => by
            rw [m1k s hs]
            refine nnB _ ?_
            rw [nBl]
            have := pos_get (n := M.n) (E := X) (s := s) (by rw [← ekp]; exact hs)
            rw [← ekp] at this
            exact (List.getElem?_eq_some_iff.mp this).1
          refine ⟨sz1, fun l hl => ⟨_, rfl, r, rvs, rfl, (Sq.same hR (same_new s15 hl)).any, l, _, _, rfl, rfl, upd_same, by omega, by omega, ?_, fun G hG => ?_⟩⟩
          · rw [Int.toNat_natCast]
            exact szM _ (by simp; omega)
          have s6 := same_new (o := .lst [.int 0]) (Same.refl H5) hl
          have s7 := same_new (o := .lst (List.replicate ((rvs.length : Nat) : Int).toNat [V.int 0]).flatten) s6 hG
          have hG5 : H5 G = none := none_back s6 hG
          obtain ⟨H7, eH7⟩ : ∃ X, X = upd (upd H5 l (.lst [.int 0])) G (.lst (List.replicate ((rvs.length : Nat) : Int).toNat [V.int 0]).flatten) := ⟨_, rfl⟩
          have eG7 : H7 G = some (.lst ((List.range M.n).map fun s => V.int (if s ∈ kp.take 0 then m1 s else 0))) := by
            rw [eH7, upd_same, Int.toNat_natCast, rep_flat, lrn]
            congr 2
            refine List.ext_getElem (by simp) fun j h1 h2 => by simp
          rw [← eH7] at s7 ⊢
          refine normG (σ' := [some (.ref r), some (.ref e), some (.int most), some (.ref le), some (.ref lk), some (.ref lp), some (.ref lf), none, none, some (.ref G), none, none, none]) rfl ?_
          refine ⟨_, rfl, _, rfl, lk, lf, _, _, rfl, SqL.of (s7 _ _ hk5), SqL.of (s7 _ _ hf), ?_⟩
          refine for_it (walk_zip (K := K) (a := lk) (b := lf) (n := kp.length) (by simp)) (fun i σ H' => ∃ v8 v10, σ = [some (.ref r), some (.ref e), some (.int most), some (.ref le), some (.ref lk), some (.ref lp), some (.ref lf), none, v8, some (.ref G), v10, none, none] ∧ H' G = some (.lst ((List.range M.n).map fun s => V.int (if s ∈ kp.take i then m1 s else 0))) ∧ Same H5 H')
            ⟨_, _, rfl, eG7, s7⟩ (fun i σ H' _ ⟨_, _, _, _, s⟩ => ⟨SqL.of (s _ _ hk5), SqL.of (s _ _ hf)⟩) ?_ ?_
          · rintro i x σ H8 H9 hi ⟨v8, v10, rfl, eG8, s8⟩ ⟨U, x, y, rfl, hU, rfl, ex, ey⟩
            obtain ⟨s, hs, rfl⟩ := map_at ex
            have ey : ((List.range kp.length).map fun s => V.int (mB s))[i]? = some y := ey
            rw [range_at hi] at ey
            cases ey
            have sn := kmem hs
            have sU : Same H8 (upd H8 U (.tup [nV s, .int (mB i)])) := same_new (Same.refl _) hU
            have eG9 := sU _ _ eG8
            refine ⟨U, _, rfl, SqT.of upd_same, rfl, _, _, rfl, _, _, rfl, rfl, ?_⟩
            refine norm (N := fun σ _ => _) (σ' := [some (.ref r), some (.ref e), some (.int most), some (.ref le), some (.ref lk), some (.ref lp), some (.ref lf), none, some (nV s), some (.ref G), some (.int (mB i)), none, none]) rfl ?_
            refine ⟨_, rfl, _, rfl, _, rfl, G, _, _, s, rfl, rfl, eG9, ixN_at (by simpa using sn), ?_⟩
            refine ⟨_, _, rfl, ?_, same_upd (s8.trans sU) hG5⟩
            rw [upd_same, map_set sn (g := fun u => V.int (if u ∈ kp.take (i + 1) then m1 u else 0))]
            · have m : s ∈ kp.take (i + 1) := by
                rw [List.take_add_one, hs]
                simp
              show V.int _ = V.int _
              rw [if_pos m, m1k s (List.mem_of_getElem? hs), pos_at (by rw [← ekp]; exact hs)]
            · intro j hj
              show V.int _ = V.int _
              rw [List.take_add_one, hs]
              simp [hj]
          · rintro σ H8 ⟨v8, v10, rfl, eG8, s8⟩
            rw [List.take_length] at eG8
            have eG8 : H8 G = some (.lst ((List.range M.n).map fun s => V.int (m1 s))) := by
              rw [eG8]
              congr 2
              refine List.map_congr_left fun s _ => ?_
              by_cases z : s ∈ kp
              · rw [if_pos z]
              · rw [if_neg z, em1]
                show V.int 0 = V.int (if s ∈ kp then _ else 0)
                rw [if_neg z]
            -- the key of a state
            have mkKey : ∀ (v10 v11 v12 : Option V) (s : Nat) (H' : Hp) (m : Nat → Int) (u : TS) (Dn : Ends), s < M.n → Same H H' → H' G = some (.lst ((List.range M.n).map fun s => V.int (m s))) → (∀ t H2, Same H' H2 → MixD.NV H2 (kE M m s) (.ref t) → u Dn [some (.ref r), some (.ref e), some (.int most), some (.ref le), some (.ref lk), some (.ref lp), some (.ref lf), none, some (nV s), some (.ref G), v10, v11, some (.ref t)] H2) →
                tSeq (tAsg (tTup (tCons (tOp (rIxA K) (tVar 1) (tVar 8)) (StX.tStar K (tLc (iAnyI K (tOp (rIxA K) (tVar 0) (tVar 8))) (gName 7) tYes (tOp (rIxA K) (tVar 9) (tVar 7)) [7]) tNil))) (gName 12)) u Dn [some (.ref r), some (.ref e), some (.int most), some (.ref le), some (.ref lk), some (.ref lp), some (.ref lf), none, some (nV s), some (.ref G), v10, v11, v12] H' := by
              intro v10 v11 v12 s H' m u Dn sn sH hG' kR
              obtain ⟨bs2, hb, hbs⟩ := entAt sH s sn
              obtain ⟨a, hra, ha⟩ := rowAt s sn
              have lrw := ok.wide s _ (row_get sn)
              refine ⟨_, rfl, _, rfl, e, _, _, _, rfl, rfl, hb, atN hbs, ?_⟩
              refine any_get (a := a) (xs := (M.rows.getD s []).map nV) (fun P q => ⟨_, rfl, _, rfl, r, _, _, _, rfl, rfl, (Sq.same hR sH).any, atN hra, q⟩) (ha.same sH) (fun J2 wk2 => ?_)
              intro D3 hD3
              refine lc_all wk2 hD3 (by rw [List.length_map, lrw]; omega) (fun c y _ => y = V.int (m (M.to s c))) (fun _ _ _ _ _ h => h) (fun H8 s8 => ha.eqs (sH.trans s8) sH) ?_ ?_
              · rintro c x H7 H8 R2 N2 zs2 hj s7 eD3 ⟨rfl, ex2⟩ k7
                obtain ⟨t, ht, rfl⟩ := map_at ex2
                have tn := ok.inn s _ t (row_get sn) (List.mem_of_getElem? ht)
                exact ⟨rfl, yes_to ⟨_, rfl, _, rfl, G, _, _, _, rfl, rfl, .inl (SqL.of (s7 _ _ hG')), atN (range_at tn), k7 _ _ (Same.refl _) (by rw [ZA.to_at (row_get sn) ht])⟩⟩
              · intro ys H7 ly7 py7 s7 eD3
                rw [List.length_map, lrw] at ly7
                have := list_is ly7 py7
                subst this
                refine ⟨D3, _, rfl, .inr (SqL.of eD3), szM _ (by simp; omega), fun t ht => ?_⟩
                refine normG (σ' := [some (.ref r), some (.ref e), some (.int most), some (.ref le), some (.ref lk), some (.ref lp), some (.ref lf), none, some (nV s), some (.ref G), v10, v11, some (.ref t)]) rfl ?_
                refine kR t _ (same_new s7 ht) (nv_kE ?_)
                rw [upd_same, List.append_nil]
            refine fun Tt hTt x0 => ?_
            have nGT : G ≠ Tt := ne_of_none eG8 hTt
            have hT5 : H5 Tt = none := none_back s8 hTt
            have s9 := same_new (o := MixD.mixO Tt []) s8 hTt
            obtain ⟨H9, eH9⟩ : ∃ X, X = upd H8 Tt (MixD.mixO Tt []) := ⟨_, rfl⟩
            have eG9 : H9 G = some (.lst ((List.range M.n).map fun s => V.int (m1 s))) := by rw [eH9, upd_ne nGT]; exact eG8
            rw [← eH9] at x0 s9 ⊢
            refine normG (σ' := [some (.ref r), some (.ref e), some (.int most), some (.ref le), some (.ref lk), some (.ref lp), some (.ref lf), none, v8, some (.ref G), v10, some (.ref Tt), none]) rfl ?_
            refine any_var rfl (xs := kp.map nV) (.inl (s9 _ _ hk5)) (fun J3 wk3 => ?_)
            refine for_it wk3 (fun i σ H' => ∃ (v8 v12 : Option V) (TT : List (NestedKey × V)), σ = [some (.ref r), some (.ref e), some (.int most), some (.ref le), some (.ref lk), some (.ref lp), some (.ref lf), none, v8, some (.ref G), v10, some (.ref Tt), v12] ∧ H' G = some (.lst ((List.range M.n).map fun s => V.int (m1 s))) ∧
              MixD.XD w H' Tt TT ∧ Tb M (fun s => s ∈ kp.take i) m1 TT ∧ TT.length ≤ i ∧ Same H5 H') ⟨_, _, [], rfl, eG9, x0, ⟨fun s hs => by simp at hs, fun q hq => by simp at hq⟩, Nat.le_refl _, s9⟩ (fun i σ H' _ ⟨_, _, _, _, _, _, _, _, s⟩ => by rw [s _ _ hk5, s9 _ _ hk5]) ?_ ?_
            · rintro i x σ H10 H11 hi ⟨v8, v12, TT, rfl, eG10, xd, tb, lT, s10⟩ ⟨rfl, ex⟩
              obtain ⟨s, hs, rfl⟩ := map_at ex
              have sn := kmem hs
              rw [List.length_map] at hi
              refine normG (σ' := [some (.ref r), some (.ref e), some (.int most), some (.ref le), some (.ref lk), some (.ref lp), some (.ref lf), none, some (nV s), some (.ref G), v10, some (.ref Tt), v12]) rfl ?_
              refine mkKey _ _ _ s _ m1 _ _ sn (s15.trans s10) eG10 (fun t H12 s12' nv => ?_)
              have s13 := s10.trans s12'
              have eG12 := s12' _ _ eG10
              have xd12 := xd.up (fun a vs q => s12' _ _ q) (by obtain ⟨q, e⟩ := xd_obj xd; rw [s12' _ _ e, e])
              refine ⟨_, rfl, _, rfl, G, _, _, _, rfl, rfl, .inl (SqL.of eG12), atN (range_at sn), _, rfl, _, rfl, Tt, _, kE M m1 s, rfl, xd12, nv, dep_kE, szL _ (by omega), fun es x5 => ?_⟩
              refine ⟨_, _, _, rfl, by rw [upd_ne nGT]; exact eG12, x5, ?_, Nat.le_trans (MixD.put_len _ _ _) (by omega), same_upd s13 hT5⟩
              have := tb.put (fun s hs => List.mem_of_mem_take hs) ok on1 (List.mem_of_getElem? hs)
              have eS : (fun s => s ∈ kp.take (i + 1)) = fun u => u ∈ kp.take i ∨ u = s := funext fun u => propext (by rw [List.take_add_one, hs]; simp)
              rw [eS]
              exact this
            · rintro σ H10 ⟨v8, v12, TT, rfl, eG10, xd, tb, lT, s10⟩
              rw [List.length_map] at lT tb
              rw [List.take_length] at tb
              have hX10 := s10 _ _ hX5
              refine ⟨_, rfl, le, X.map nV, rfl, SqL.of hX10, ?_⟩
              have eS0 : (fun s => s ∈ kp ∨ ∃ j, X.length - 0 ≤ j ∧ X[j]? = some s) = fun s => s ∈ kp := funext fun s => propext ⟨fun h => h.elim id fun ⟨j, h1, h2⟩ => by
                have := (List.getElem?_eq_some_iff.mp h2).1
                omega, .inl⟩
              refine for_it (walk_rev (K := K) (a := le) (xs := X.map nV)) (fun i σ H' => ∃ (v8 v12 : Option V) (TT : List (NestedKey × V)) (m : Nat → Int), σ = [some (.ref r), some (.ref e), some (.int most), some (.ref le), some (.ref lk), some (.ref lp), some (.ref lf), none, v8, some (.ref G), v10, some (.ref Tt), v12] ∧ H' G = some (.lst ((List.range M.n).map fun s => V.int (m s))) ∧
                MixD.XD w H' Tt TT ∧ ZA.MarksOn M (fun s => s ∈ kp ∨ ∃ j, X.length - i ≤ j ∧ X[j]? = some s) m ∧ Tb M (fun s => s ∈ kp ∨ ∃ j, X.length - i ≤ j ∧ X[j]? = some s) m TT ∧ (∀ s, (s ∈ kp ∨ ∃ j, X.length - i ≤ j ∧ X[j]? = some s) → 0 ≤ m s ∨ ∃ y, (y ∈ kp ∨ ∃ j, X.length - i ≤ j ∧ X[j]? = some y) ∧ m s = -1 - (y : Int)) ∧ TT.length ≤ kp.length + i ∧ Same H5 H')
                ⟨_, _, TT, m1, rfl, eG10, xd, by rw [eS0]; exact on1, by rw [eS0]; exact tb, fun s hs => .inl (nn1 s (by have := congrFun eS0 s; exact this ▸ hs)), lT, s10⟩ (fun i σ H' _ ⟨_, _, _, _, _, _, _, _, _, _, _, s⟩ => SqL.of (s _ _ hX5)) ?_ ?_
              · rintro i x σ H11 H12 hi ⟨v8, v12, TT, m, rfl, eG11, xd, on, tb, neg, lT, s11⟩ ⟨rfl, ex⟩
                rw [List.length_map] at hi ex
                obtain ⟨s, hs, rfl⟩ := map_at ex
                have sm := List.mem_of_getElem? hs
                have sn := ea.inn s sm
                have nS : ¬ (s ∈ kp ∨ ∃ j, X.length - i ≤ j ∧ X[j]? = some s) := fun h => by
                  rcases h with h | ⟨j, h1, h2⟩
                  · rw [ekp] at h
                    exact (kept_mem.mp h).2 sm
                  · have g1 := List.getElem?_eq_some_iff.mp hs
                    have g2 := List.getElem?_eq_some_iff.mp h2
                    exact (List.pairwise_iff_getElem.mp ea.nd) _ _ g1.1 g2.1 (by omega) (g1.2.trans g2.2.symm)
                have go : ∀ c, c < M.w → (M.to s c ∈ kp ∨ ∃ j, X.length - i ≤ j ∧ X[j]? = some (M.to s c)) := fun c hc => by
                  by_cases z : M.to s c ∈ X
                  · obtain ⟨j, hj⟩ := List.mem_iff_getElem?.mp z
                    have := ea.ord _ j s _ _ hs hj (row_get sn) (List.mem_of_getElem? (row_to ok sn hc))
                    exact .inr ⟨j, by omega, hj⟩
                  · rw [ekp]
                    exact .inl (kept_mem.mpr ⟨ZA.to_lt ok sn hc, z⟩)
                have eS : (fun u => u ∈ kp ∨ ∃ j, X.length - (i + 1) ≤ j ∧ X[j]? = some u) = fun u => (u ∈ kp ∨ ∃ j, X.length - i ≤ j ∧ X[j]? = some u) ∨ u = s := funext fun u => propext (by
                  constructor
                  · rintro (h | ⟨j, h1, h2⟩)
                    · exact .inl (.inl h)
                    · by_cases z : X.length - i ≤ j
                      · exact .inl (.inr ⟨j, z, h2⟩)
                      · have : j = X.length - 1 - i := by omega
                        rw [this, hs] at h2
                        cases h2
                        exact .inr rfl
                  · rintro ((h | ⟨j, h1, h2⟩) | rfl)
                    · exact .inl h
                    · exact .inr ⟨j, by omega, h2⟩
                    · exact .inr ⟨_, by omega, hs⟩)
                refine normG (σ' := [some (.ref r), some (.ref e), some (.int most), some (.ref le), some (.ref lk), some (.ref lp), some (.ref lf), none, some (nV s), some (.ref G), v10, some (.ref Tt), v12]) rfl ?_
                refine mkKey _ _ _ s _ m _ _ sn (s15.trans s11) eG11 (fun t H13 s13 nv => ?_)
                have s14 := s11.trans s13
                have eG13 := s13 _ _ eG11
                have xd13 := xd.up (fun a vs q => s13 _ _ q) (by obtain ⟨q, e⟩ := xd_obj xd; rw [s13 _ _ e, e])
                obtain ⟨stV, stN⟩ := tb.step ok on neg sn nS go
                have setG : ∀ i, ((List.range M.n).map fun u => V.int (m u)).set s (.int i) = (List.range M.n).map fun u => V.int (setM m s i u) := fun i => map_set sn (by show V.int _ = V.int _; unfold setM; rw [if_pos rfl]) fun j hj => by
                  show V.int _ = V.int _
                  unfold setM
                  rw [if_neg hj]
                have negS : ∀ (k : Int) (S2 : Nat → Prop), (∀ u, (u ∈ kp ∨ ∃ j, X.length - i ≤ j ∧ X[j]? = some u) → S2 u) → S2 s → (0 ≤ k ∨ ∃ y, S2 y ∧ k = -1 - (y : Int)) → ∀ u, ((u ∈ kp ∨ ∃ j, X.length - i ≤ j ∧ X[j]? = some u) ∨ u = s) → 0 ≤ setM m s k u ∨ ∃ y, S2 y ∧ setM m s k u = -1 - (y : Int) := fun k S2 up hS2 hk u hu => by
                  unfold setM
                  by_cases z : u = s
                  · rw [if_pos z]
                    exact hk
                  · rw [if_neg z]
                    rcases hu with hu | hu
                    · rcases neg u hu with h | ⟨y, hy, h⟩
                      · exact .inl h
                      · exact .inr ⟨y, up y hy, h⟩
                    · exact absurd hu z
                refine ⟨_, rfl, ⟨Tt, TT, rfl, xd13⟩, _, rfl, _, rfl, _, rfl, _, _, rfl, rfl, Tt, TT, kE M m s, _, _, rfl, rfl, xd13, nv, dep_kE, szL _ (by omega), ?_⟩
                have S3 : ∀ u, (u ∈ kp ∨ ∃ j, X.length - i ≤ j ∧ X[j]? = some u) → (u ∈ kp ∨ ∃ j, X.length - (i + 1) ≤ j ∧ X[j]? = some u) := fun u hu => by have := congrFun eS u; exact this ▸ (Or.inl hu)
                have S4 : (s ∈ kp ∨ ∃ j, X.length - (i + 1) ≤ j ∧ X[j]? = some s) := by have := congrFun eS s; exact this ▸ (Or.inr rfl)
                have S5 : ∀ u, (u ∈ kp ∨ ∃ j, X.length - (i + 1) ≤ j ∧ X[j]? = some u) → ((u ∈ kp ∨ ∃ j, X.length - i ≤ j ∧ X[j]? = some u) ∨ u = s) := fun u hu => by have := congrFun eS u; exact this ▸ hu
                cases ev : MixD.val TT (kE M m s) with
                | some v =>
                  obtain ⟨k, rfl, on2, tb2, nk⟩ := stV v ev
                  refine .inl ⟨_, rfl, _, rfl, _, rfl, G, _, _, s, rfl, rfl, eG13, ixN_at (by simpa using sn), ?_⟩
                  rw [setG k]
                  refine ⟨_, _, TT, setM m s k, rfl, upd_same, xd13.up (fun a vs q => TSame.updL eG13 a vs q) (upd_ne nGT.symm), by rw [eS]; exact on2, by rw [eS]; exact tb2, fun u hu => negS k _ S3 S4 (nk.imp id fun ⟨y, hy, h⟩ => ⟨y, S3 y hy, h⟩) u (S5 u hu), by omega, same_upd s14 hG5⟩
                | none =>
                  obtain ⟨on2, tb2⟩ := stN ev
                  refine .inr ⟨rfl, fun es x5 => ⟨_, rfl, _, rfl, G, _, _, s, rfl, rfl, by rw [upd_ne nGT]; exact eG13, ixN_at (by simpa using sn), ?_⟩⟩
                  rw [setG _]
                  have eG14 : upd H13 Tt (MixD.mixO Tt es) G = _ := (upd_ne nGT).trans eG13
                  refine ⟨_, _, _, setM m s (-1 - (s : Int)), rfl, upd_same, x5.up (fun a vs q => TSame.updL eG14 a vs q) (upd_ne nGT.symm), by rw [eS]; exact on2, by rw [eS]; exact tb2, fun u hu => negS _ _ S3 S4 (.inr ⟨s, S4, rfl⟩) u (S5 u hu), Nat.le_trans (MixD.put_len _ _ _) (by omega), same_upd (same_upd s14 hT5) hG5⟩
              · rintro σ H11 ⟨v8, v12, TT, m, rfl, eG11, xd, on, tb, neg, lT, s11⟩
                rw [List.length_map] at lT on
                refine ⟨_, rfl, Tt, TT, rfl, xd, _, rfl, _, _, rfl, rfl, _, rfl, if_yes (decide_eq_true (by rw [ekp] at lT; omega)) ⟨_, rfl, q G H11 m (s15.trans s11) eG11 (on.all fun u hu => ?_)⟩⟩
                by_cases z : u ∈ X
                · obtain ⟨j, hj⟩ := List.mem_iff_getElem?.mp z
                  exact .inr ⟨j, by omega, hj⟩
                · rw [ekp]
                  exact .inl (kept_mem.mpr ⟨hu, z⟩)
end
end K01
set_option maxHeartbeats 4000000
namespace K01
open PySem PySem.Spec PyProof.Rows L2 Z
def spMinimal : Sp := fun vs H Q _ => ∃ (r e : Addr) (A : ZA.Aut), vs = [.ref r, .ref e] ∧ RowsAt H r A.rows ∧ EndsAt H e A.ends ∧ A.Ok ∧ 0 < A.n ∧ A.n ≤ 400 ∧ A.w ≤ 1000 ∧ ∀ v H' M met, Same H H' → MaT H' v M → ZA.Told A M met → Q v H'
def spMinUp : Sp := fun vs H Q _ => ∃ (r e : Addr) (A : ZA.Aut), vs = [.ref r, .ref e, .int 400] ∧ RowsAt H r A.rows ∧ EndsAt H e A.ends ∧ A.Ok ∧ 0 < A.n ∧ A.n ≤ 400 ∧ A.w ≤ 1000 ∧ ∀ v H' M met, Same H H' → MaT H' v M → ZA.Told A M met → Q v H'
def spArity : Sp := fun vs H Q _ => ∃ (v : V) (A : ZA.Aut) (k : Nat), vs = [v] ∧ MaS H v A ∧ A.Ok ∧ 0 < A.n ∧ A.w = 2 ^ k ∧ k ≤ 4 ∧ Q (.int (k : Nat)) H
section
variable {P : Program} {w : World} {K : PySem.W.Frag} {mg : Str → Option Value} {base : Heap}
theorem sc_minimal : FnScope ["rows", "ends"] ["rows", "ends"] (defScope s_minimal) := ⟨rfl, rfl, rfl, by decide +kernel, rfl, by decide +kernel, by decide +kernel⟩
theorem ok_minimal {f : Addr} {fd : FuncData} (F : FnP K "minimal" s_minimal f fd) (T : Nb mg) (dClasses : Dn P w K mg base 2 "classes_of" ["rows", "ends", "most"] spClasses) (dInOrder : Dn P w K mg base 1 "in_order" ["rows", "ends", "marks"] spInOrder) :
    FnOk P w K mg base CX0 3 f fd ["rows", "ends"] spMinimal := by
  refine F.ok sc_minimal (fun vs H Q E h => ?_) (fun cdv A outer s H vs Q E hr h => ?_)
  · obtain ⟨r, e, M, rfl, _⟩ := h
    rfl
  · obtain ⟨r, e, M, rfl, hR, hE, ok, n0, hn, hw, q⟩ := h
    obtain ⟨rvs, hR1, hW1⟩ := id hR
    have lr : rvs.length = M.n := hW1.len
    refine ⟨_, PSs.nox (pss_one (ps_ret (pe_dn dInOrder hr (pa_cons (pv 0) (pa_cons (pv 1) (pa_cons (pe_dn dClasses hr (pa_cons (pv 0) (pa_cons (pv 1) (pa_cons (pe_callB (call_lenA (K := K) rfl) (by rfl) T.len PySem.boot_len (pa_cons (pv 0) pa_nil)) pa_nil)))) pa_nil)))))), ?_⟩
    refine ⟨_, rfl, _, rfl, _, rfl, _, rfl, _, rfl, r, _, rfl, Sq.any hR1, r, e, M, _, rfl, hR, hE, ok, n0, hn, hw, by rw [lr]; exact Int.le_refl _, fun l H1 m s1 hl mk => ?_⟩
    refine ⟨r, e, l, M, (List.range M.n).map m, rfl, hR.same s1, Sq.same hE s1, .inl (by rw [hl, List.map_map]; rfl), by simp, ?_, ok, n0, hn, hw, fun v H' M' met s2 hv td => q v H' M' met (s1.trans s2) hv td⟩
    intro s t hs ht
    have e1 : ∀ u, u < M.n → ((List.range M.n).map m).getD u 0 = m u := fun u hu => by
      rw [List.getD_eq_getElem?_getD, List.getElem?_map, List.getElem?_range hu]
      rfl
    show ((List.range M.n).map m).getD s 0 = ((List.range M.n).map m).getD t 0 ↔ _
    rw [e1 s hs, e1 t ht]
    exact mk s t hs ht
theorem sc_minimal_up_to : FnScope ["rows", "ends", "most", "marks"] ["rows", "ends", "most"] (defScope s_minimal_up_to) := ⟨rfl, rfl, rfl, by decide +kernel, rfl, by decide +kernel, by decide +kernel⟩
theorem ok_minUp {f : Addr} {fd : FuncData} (F : FnP K "minimal_up_to" s_minimal_up_to f fd) (T : Nb mg) (dClasses : Dn P w K mg base 2 "classes_of" ["rows", "ends", "most"] spClasses) (dInOrder : Dn P w K mg base 1 "in_order" ["rows", "ends", "marks"] spInOrder) :
    FnOk P w K mg base CX0 3 f fd ["rows", "ends", "most"] spMinUp := by
  refine F.ok sc_minimal_up_to (fun vs H Q E h => ?_) (fun cdv A outer s H vs Q E hr h => ?_)
  · obtain ⟨r, e, M, rfl, _⟩ := h
    rfl
  · obtain ⟨r, e, M, rfl, hR, hE, ok, n0, hn, hw, q⟩ := h
    refine ⟨_, PSs.nox (pss_cons (ps_set (i := 3) sc_minimal_up_to.nd rfl (Or.inl rfl) (pe_dn dClasses hr (pa_cons (pv 0) (pa_cons (pv 1) (pa_cons (pv 2) pa_nil)))))
      (pss_one (ps_ret (pe_ifExp (pt_cmpR op_isN (pv 3) pe_non (nomark _)) pe_non (pe_dn dInOrder hr (pa_cons (pv 0) (pa_cons (pv 1) (pa_cons (pv 3) pa_nil)))))))), ?_⟩
    refine ⟨_, rfl, _, rfl, _, rfl, r, e, M, _, rfl, hR, hE, ok, n0, hn, hw, by omega, fun l H1 m s1 hl mk => ?_⟩
    refine normG (σ' := [some (.ref r), some (.ref e), some (.int 400), some (.ref l)]) rfl ?_
    refine ⟨_, rfl, rfl, _, rfl, if_no rfl ?_⟩
    refine ⟨_, rfl, _, rfl, _, rfl, r, e, l, M, (List.range M.n).map m, rfl, hR.same s1, Sq.same hE s1, .inl (by rw [hl, List.map_map]; rfl), by simp, ?_, ok, n0, hn, hw, fun v H' M' met s2 hv td => q v H' M' met (s1.trans s2) hv td⟩
    intro s t hs ht
    have e1 : ∀ u, u < M.n → ((List.range M.n).map m).getD u 0 = m u := fun u hu => by
      rw [List.getD_eq_getElem?_getD, List.getElem?_map, List.getElem?_range hu]
      rfl
    show ((List.range M.n).map m).getD s 0 = ((List.range M.n).map m).getD t 0 ↔ _
    rw [e1 s hs, e1 t ht]
    exact mk s t hs ht
theorem sc_arity_of : FnScope ["machine"] ["machine"] (defScope s_arity_of) := ⟨rfl, rfl, rfl, by decide +kernel, rfl, by decide +kernel, by decide +kernel⟩
theorem ok_arity {f : Addr} {fd : FuncData} (F : FnP K "arity_of" s_arity_of f fd) (T : Nb mg) : FnOk P w K mg base CX0 1 f fd ["machine"] spArity := by
  refine F.ok sc_arity_of (fun vs H Q E h => ?_) (fun cdv A outer s H vs Q E hr h => ?_)
  · obtain ⟨v, M, k, rfl, _⟩ := h
    rfl
  · obtain ⟨v, M, k, rfl, ⟨m, r, e, rfl, hm, ⟨rvs, hR, hW⟩, hE⟩, ok, n0, hw, hk, q⟩ := h
    refine ⟨_, PSs.nox (pss_one (ps_ret (pe_op op_sub (pe_bits (pe_callB (call_lenA (K := K) rfl) (by rfl) T.len PySem.boot_len (pa_cons (pe_ix (ix_anyK (K := K) rfl) (pe_ix (ix_anyK (K := K) rfl) (pv 0) pe_int (fun _ _ => rfl)) pe_int (fun _ _ => rfl)) pa_nil))) pe_int))), ?_⟩
    obtain ⟨row, hrow⟩ : ∃ row, M.rows[0]? = some row := ⟨_, List.getElem?_eq_getElem n0⟩
    obtain ⟨a, ha, hs⟩ := hW.get hrow
    have lr := ok.wide 0 row hrow
    refine ⟨_, rfl, m, _, _, _, rfl, rfl, .inr (SqT.of hm), at0, r, _, _, _, rfl, rfl, hR.any, atN (j := 0) ha, a, _, rfl, hs.any, _, rfl, _, _, rfl, rfl, ?_⟩
    rw [List.length_map, lr, hw]
    have e5 : ∀ k, k ≤ 4 → ((Builtin.Int.intBits ((2 ^ k : Nat) : Int) : Nat) : Int) - 1 = (k : Nat) := by decide +kernel
    show Q (.int (((Builtin.Int.intBits ((2 ^ k : Nat) : Int) : Nat) : Int) - 1)) H
    rw [e5 k hk]
    exact q
end
end K01
set_option maxHeartbeats 4000000
namespace K01
open PySem PySem.Spec PyProof.Rows L2 Z
/-- pairs of states, closed under the letters -/
structure Pairs (A B : ZA.Aut) (P : List (Nat × Nat)) : Prop where
  zero : (0, 0) ∈ P
  inn : ∀ s t, (s, t) ∈ P → s < A.n ∧ t < B.n
  go : ∀ s t, (s, t) ∈ P → ∀ c, c < A.w → (A.to s c, B.to t c) ∈ P
theorem pairs_all {A B : ZA.Aut} (okA : A.Ok) (okB : B.Ok) (ww : A.w = B.w) (nA : 0 < A.n) (nB : 0 < B.n) : ∃ P, Pairs A B P ∧ P.length = A.n * B.n := by
  refine ⟨(List.range (A.n * B.n)).map fun i => (i / B.n, i % B.n), ?_, by simp⟩
  have mem : ∀ s t, s < A.n → t < B.n → (s, t) ∈ (List.range (A.n * B.n)).map fun i => (i / B.n, i % B.n) := fun s t hs ht => by
    refine List.mem_map.mpr ⟨s * B.n + t, List.mem_range.mpr (ZA.pair_lt hs ht), ?_⟩
    rw [Nat.mul_comm, Nat.mul_add_div (by omega), Nat.div_eq_of_lt ht, Nat.mul_add_mod, Nat.mod_eq_of_lt ht, Nat.add_zero]
  have inn : ∀ s t, (s, t) ∈ (List.range (A.n * B.n)).map (fun i => (i / B.n, i % B.n)) → s < A.n ∧ t < B.n := fun s t h => by
    obtain ⟨i, hi, e⟩ := List.mem_map.mp h
    rw [List.mem_range] at hi
    cases e
    exact ⟨(Nat.div_lt_iff_lt_mul nB).mpr hi, Nat.mod_lt _ nB⟩
  exact ⟨mem 0 0 nA nB, inn, fun s t h c hc => mem _ _ (ZA.to_lt okA (inn s t h).1 hc) (ZA.to_lt okB (inn s t h).2 (ww ▸ hc))⟩
theorem code_pos {keep : Bool → Bool → Bool} {A B : ZA.Aut} {v1 v2 : Nat → Int} (S : ZA.Sure keep A B v1 v2) (hsz : A.n * B.n ≤ 1000000) {s t : Nat} (hs : s < A.n) (ht : t < B.n) (h : 0 ≤ ZA.code B v1 v2 s t) : ZA.code B v1 v2 s t = ((s * B.n + t : Nat) : Int) := by
  have lt := ZA.pair_lt hs ht
  have b1 : (s : Int) * B.n ≤ 1000000 := by
    have : s * B.n ≤ 1000000 := by omega
    rw [← Int.natCast_mul]
    omega
  have b0 : 0 ≤ (s : Int) * B.n := Int.mul_nonneg (by omega) (by omega)
  have b2 : (t : Int) ≤ 1000000 := by
    have h1 : B.n ≤ A.n * B.n := Nat.le_mul_of_pos_left _ (by omega)
    omega
  have h1 : ZA.num (v1 s) (s * B.n) ≤ 1000000 ∧ (v1 s ≠ 0 → ZA.num (v1 s) (s * B.n) ≤ -1099511627776) := by
    rcases S.one s hs with z | ⟨z, _⟩ | ⟨z, _⟩ <;> rw [z]
    · rw [ZA.num_0]; exact ⟨b1, fun q => absurd rfl q⟩
    · rw [ZA.num_in]; exact ⟨by decide, fun _ => by decide⟩
    · rw [ZA.num_out]; exact ⟨by decide, fun _ => by decide⟩
  have h2 : ZA.num (v2 t) t ≤ 1000000 ∧ (v2 t ≠ 0 → ZA.num (v2 t) t ≤ -1099511627776) := by
    rcases S.two t ht with z | ⟨z, _⟩ | ⟨z, _⟩ <;> rw [z]
    · rw [ZA.num_0]; exact ⟨b2, fun q => absurd rfl q⟩
    · rw [ZA.num_in]; exact ⟨by decide, fun _ => by decide⟩
    · rw [ZA.num_out]; exact ⟨by decide, fun _ => by decide⟩
  have neg : ∀ x : Int, x < 0 → ZA.clip x < 0 := fun x hx => by
    unfold ZA.clip
    rw [if_pos hx]
    split <;> decide
  have e1 : v1 s = 0 := Classical.byContradiction fun q => by
    have := h1.2 q
    have := neg (ZA.num (v1 s) (s * B.n) + ZA.num (v2 t) t) (by omega)
    unfold ZA.code at h
    omega
  have e2 : v2 t = 0 := Classical.byContradiction fun q => by
    have := h2.2 q
    have := neg (ZA.num (v1 s) (s * B.n) + ZA.num (v2 t) t) (by omega)
    unfold ZA.code at h
    omega
  unfold ZA.code
  rw [e1, e2, ZA.num_0, ZA.num_0]
  unfold ZA.clip
  rw [if_neg (by omega)]
  push_cast
  rfl
theorem pairs_closed {keep : Bool → Bool → Bool} {A B : ZA.Aut} {v1 v2 : Nat → Int} {P : List (Nat × Nat)} (S : ZA.Sure keep A B v1 v2) (hsz : A.n * B.n ≤ 1000000) (p : Pairs A B P) : ZA.ClosedW A.w (ZA.prodF A B v1 v2) (P.map fun q => ZA.code B v1 v2 q.1 q.2) := fun x hx c hc => by
  obtain ⟨⟨s, t⟩, h, rfl⟩ := List.mem_map.mp hx
  obtain ⟨hs, ht⟩ := p.inn s t h
  unfold ZA.prodF
  by_cases z : ZA.code B v1 v2 s t < 0
  · rw [if_pos z]
    exact hx
  · rw [if_neg z, code_pos S hsz hs ht (by omega)]
    obtain ⟨d1, d2⟩ := ZA.pair_div (s := s) ht
    rw [d1, d2]
    exact List.mem_map.mpr ⟨_, p.go s t h c hc, rfl⟩
/-- what to keep, by what one and the other say -/
def KpAt (K : PySem.W.Frag) (H : Hp) (k : Addr) (keep : Bool → Bool → Bool) : Prop := ∃ p q, SqT K H k [.ref p, .ref q] ∧ SqT K H p [.bl (keep false false), .bl (keep false true)] ∧ SqT K H q [.bl (keep true false), .bl (keep true true)]
def spJoinF (K : PySem.W.Frag) : Sp := fun vs H Q _ => ∃ (v1 v2 : V) (k : Addr) (A B : ZA.Aut) (keep : Bool → Bool → Bool), vs = [v1, v2, .ref k] ∧ MaT H v1 A ∧ MaT H v2 B ∧ KpAt K H k keep ∧ A.Ok ∧ B.Ok ∧ A.w = B.w ∧ 0 < A.n ∧ 0 < B.n ∧ A.n ≤ 400 ∧ B.n ≤ 400 ∧ (∃ P, Pairs A B P ∧ P.length ≤ 400) ∧ 2 ≤ A.w ∧ A.w ≤ 1000 ∧
  ∀ t C H', Same H H' → MaS H' (.ref t) C → C.Ok → C.w = A.w → 0 < C.n → C.n ≤ 400 → (∀ u, C.lang 0 u = keep (A.lang 0 u) (B.lang 0 u)) → Q (.ref t) H'
/-- a table of things met: the key of each tells its place -/
def plG {α : Type} (key : α → NestedKey) (met : List α) : List (NestedKey × V) := met.zipIdx.map fun p => (key p.1, .int (p.2 : Nat))
section
variable {α : Type} {key : α → NestedKey} {met : List α}
theorem plG_len : (plG key met).length = met.length := by simp [plG]
theorem plG_at {i : Nat} {s : α} (e : met[i]? = some s) : (plG key met)[i]? = some (key s, .int (i : Nat)) := by
  unfold plG
  rw [List.getElem?_map, List.getElem?_zipIdx, e]
  simp
theorem plG_nodup (inj : ∀ a b, key a = key b → a = b) (nd : met.Nodup) : ((plG key met).map (·.1)).Nodup := by
  refine List.pairwise_iff_getElem.mpr fun i j hi hj hij e => ?_
  have li : i < met.length := by simpa [plG] using hi
  have lj : j < met.length := by simpa [plG] using hj
  have e1 := plG_at (key := key) (List.getElem?_eq_getElem li)
  have e2 := plG_at (key := key) (List.getElem?_eq_getElem lj)
  rw [List.getElem?_eq_getElem (by rw [plG_len]; exact li)] at e1
  rw [List.getElem?_eq_getElem (by rw [plG_len]; exact lj)] at e2
  rw [List.getElem_map, List.getElem_map, Option.some.inj e1, Option.some.inj e2] at e
  exact (List.pairwise_iff_getElem.mp nd) i j li lj hij (inj _ _ e)
theorem plG_val (inj : ∀ a b, key a = key b → a = b) (nd : met.Nodup) {i : Nat} {s : α} (e : met[i]? = some s) : MixD.val (plG key met) (key s) = some (.int (i : Nat)) := MixD.val_at (plG_nodup inj nd) (plG_at e)
theorem plG_no (inj : ∀ a b, key a = key b → a = b) {s : α} (h : s ∉ met) : key s ∉ (plG key met).map (·.1) := fun z => by
  unfold plG at z
  rw [List.map_map] at z
  obtain ⟨⟨t, i⟩, hp, e⟩ := List.mem_map.mp z
  rw [List.mem_zipIdx_iff_getElem?] at hp
  have := inj _ _ e
  exact h (this ▸ List.mem_of_getElem? hp)
theorem plG_put (inj : ∀ a b, key a = key b → a = b) {s : α} (h : s ∉ met) : MixD.put (plG key met) (key s) (.int (met.length : Nat)) = plG key (met ++ [s]) := by
  unfold MixD.put
  rw [if_neg (plG_no inj h)]
  unfold plG
  rw [List.zipIdx_append, List.map_append]
  simp
end
theorem numk_inj : ∀ a b : Int, NestedKey.num a = NestedKey.num b → a = b := fun a b h => by injection h
theorem set_self {σ : L2.St} {i : Nat} {v : V} (e : σ[i]? = some (some v)) : σ.set i (some v) = σ := by
  refine List.ext_getElem? fun j => ?_
  rw [List.getElem?_set]
  by_cases h : i = j
  · subst h
    rw [if_pos rfl, e]
    rw [if_pos (List.getElem?_eq_some_iff.mp e).1]
  · rw [if_neg h]
/-- what is below 0 is a verdict -/
theorem clip_read {i : Nat} {x : Int} {σ : L2.St} {H : Hp} {u : TS} {D : Ends} (e : σ[i]? = some (some (.int x))) (k : u D (σ.set i (some (.int (ZA.clip x)))) H) :
    tSeq (tIfS (tTest (tOp (rI0 fun i j => V.bl (decide (i < j))) (tVar i) (tC (V.int 0)))) (tAsg (tIf (tTest (tOp (rI0 fun i j => V.bl (decide (i < j))) (tVar i) (tC (V.int (-35184372088832))))) (tC (V.int (-1125899906842624))) (tC (V.int (-1099511627776)))) (gName i)) tNext) u D σ H := by
  by_cases h : x < 0
  · refine ⟨_, e, _, _, rfl, rfl, _, rfl, if_yes (decide_eq_true h) ⟨_, e, _, _, rfl, rfl, _, rfl, ?_⟩⟩
    by_cases h2 : x < -35184372088832
    · refine if_yes (decide_eq_true h2) ?_
      have : ZA.clip x = -1125899906842624 := ZA.clip_in h2
      rw [this] at k
      exact k
    · refine if_no (decide_eq_false h2) ?_
      have : ZA.clip x = -1099511627776 := ZA.clip_out (by show (-35184372088832 : Int) ≤ x; omega) h
      rw [this] at k
      exact k
  · refine ⟨_, e, _, _, rfl, rfl, _, rfl, if_no (decide_eq_false h) (un_next ?_)⟩
    have : ZA.clip x = x := if_neg h
    rw [this, set_self e] at k
    exact k
/-- a state from which nothing leads away reads alike whatever comes -/
theorem stay_lang {A : ZA.Aut} (ok : A.Ok) {s : Nat} (hs : s < A.n) (h : stay s (A.rows.getD s []) = true) : ∀ u, A.lang s u = A.endAt s
  | [] => rfl
  | c :: u => by
    have hc : c % A.w < A.w := Nat.mod_lt _ ok.w1
    have e := row_to ok hs hc
    have := stay_iff.mp h _ (List.mem_of_getElem? e)
    show A.lang (A.to s (c % A.w)) u = _
    rw [this]
    exact stay_lang ok hs h u
theorem verd_says {a b : Bool} (x : Bool → Bool) (ha : x false = a) (hb : x true = b) : verd a b = 0 ∨ (verd a b = ZA.sIn ∧ ∀ y, x y = true) ∨ (verd a b = ZA.sOut ∧ ∀ y, x y = false) := by
  unfold verd
  by_cases e : a = b
  · subst e
    rw [if_pos rfl]
    cases a
    · exact .inr (.inr ⟨rfl, fun y => by cases y <;> assumption⟩)
    · exact .inr (.inl ⟨rfl, fun y => by cases y <;> assumption⟩)
  · rw [if_neg e]
    exact .inl rfl
theorem sure_of {A B : ZA.Aut} (okA : A.Ok) (okB : B.Ok) (keep : Bool → Bool → Bool) : ZA.Sure keep A B (setAt A (verd (keep false false) (keep false true)) (verd (keep true false) (keep true true))) (setAt B (verd (keep false false) (keep true false)) (verd (keep false true) (keep true true))) where
  one := fun s hs => by
    unfold setAt
    by_cases h : stay s (A.rows.getD s []) = true
    · rw [if_pos h]
      have sl := stay_lang okA hs h
      cases he : A.endAt s
      · rw [if_neg (by simp)]
        rcases verd_says (keep false) rfl rfl with z | ⟨z, k⟩ | ⟨z, k⟩
        · exact .inl z
        · exact .inr (.inl ⟨z, fun u b => by rw [sl u, he]; exact k b⟩)
        · exact .inr (.inr ⟨z, fun u b => by rw [sl u, he]; exact k b⟩)
      · rw [if_pos rfl]
        rcases verd_says (keep true) rfl rfl with z | ⟨z, k⟩ | ⟨z, k⟩
        · exact .inl z
        · exact .inr (.inl ⟨z, fun u b => by rw [sl u, he]; exact k b⟩)
        · exact .inr (.inr ⟨z, fun u b => by rw [sl u, he]; exact k b⟩)
    · rw [if_neg h]
      exact .inl rfl
  two := fun s hs => by
    unfold setAt
    by_cases h : stay s (B.rows.getD s []) = true
    · rw [if_pos h]
      have sl := stay_lang okB hs h
      cases he : B.endAt s
      · rw [if_neg (by simp)]
        rcases verd_says (fun a => keep a false) rfl rfl with z | ⟨z, k⟩ | ⟨z, k⟩
        · exact .inl z
        · exact .inr (.inl ⟨z, fun u b => by rw [sl u, he]; exact k b⟩)
        · exact .inr (.inr ⟨z, fun u b => by rw [sl u, he]; exact k b⟩)
      · rw [if_pos rfl]
        rcases verd_says (fun a => keep a true) rfl rfl with z | ⟨z, k⟩ | ⟨z, k⟩
        · exact .inl z
        · exact .inr (.inl ⟨z, fun u b => by rw [sl u, he]; exact k b⟩)
        · exact .inr (.inr ⟨z, fun u b => by rw [sl u, he]; exact k b⟩)
    · rw [if_neg h]
      exact .inl rfl
section
variable {P : Program} {w : World} {K : PySem.W.Frag} {mg : Str → Option Value} {base : Heap}
theorem sc_joined_freely : FnScope ["one", "other", "keep", "wide", "rows_one", "first_one", "e", "rows_other", "first_other", "first", "codes", "place", "rows", "code", "row", "x", "y", "then", "ends", "c"] ["one", "other", "keep"] (defScope s_joined_freely) := ⟨rfl, rfl, rfl, by decide +kernel, rfl, by decide +kernel, by decide +kernel⟩
theorem ok_joinF {f : Addr} {fd : FuncData} (F : FnP K "joined_freely" s_joined_freely f fd) (T : Nb mg) (dVerdict : Dn P w K mg base 1 "verdict_of" ["pair"] (spVerdict K)) (dNumbered : Dn P w K mg base 2 "numbered" ["machine", "factor", "sure"] (spNumbered K))
    (hi : ∃ t, mg "SURELY_IN" = some (.int (-1125899906842624) t)) (ho : ∃ t, mg "SURELY_OUT" = some (.int (-1099511627776) t)) (hb : ∃ t, mg "BETWEEN" = some (.int (-35184372088832) t)) :
    FnOk P w K mg base CX0 3 f fd ["one", "other", "keep"] (spJoinF K) := by
  refine F.ok sc_joined_freely (fun vs H Q E h => ?_) (fun cdv A outer s H vs Q E hr h => ?_)
  · obtain ⟨v1, v2, k, M, N, keep, rfl, _⟩ := h
    rfl
  · obtain ⟨v1, v2, k, M, N, keep, rfl, h1, h2, hk, ok1, ok2, ww, n1, n2, hn1, hn2, ⟨P, hP, lP⟩, w2, hw, q⟩ := h
    have hu9 := u9 hr
    obtain ⟨tSURELY_IN, hSURELY_IN⟩ := hi
    obtain ⟨tSURELY_OUT, hSURELY_OUT⟩ := ho
    obtain ⟨tBETWEEN, hBETWEEN⟩ := hb
    refine ⟨_, PSs.nox (pss_cons (ps_set (i := 3) sc_joined_freely.nd rfl (Or.inr rfl) (pe_callB (call_lenA (K := K) rfl) (by rfl) T.len PySem.boot_len (pa_cons (pe_ix (ix_anyK (K := K) rfl) (pv 1) pe_int (fun _ _ => rfl)) pa_nil)))
      (pss_cons (ps_asg (pe_dn dNumbered hr (pa_cons (pv 0) (pa_cons (pv 3) (pa_cons (pe_lc (own := [("e", 6)]) (g := gName 6) (tt := tYes) rfl sc_joined_freely.nd (pi_tup (pe_tup (pa_cons pe_int (pa_cons pe_int pa_nil)))) (blkOk_by (N := ["one", "other", "keep", "wide", "rows_one", "first_one", "e", "rows_other", "first_other", "first", "codes", "place", "rows", "code", "row", "x", "y", "then", "ends", "c"]) (sc := defScope s_joined_freely) (by decide +kernel)) (fun _ _ _ _ _ => (pg_name (i := 6) sc_joined_freely.nd rfl (.inl rfl))) (fun _ _ _ _ _ => pts_nil) (fun _ _ _ _ _ => (pe_dn dVerdict hr (pa_cons (pe_ix (ix_anyK (K := K) rfl) (pv 2) (pv 6) (fun _ _ => rfl)) pa_nil)))) pa_nil)))) (pg_tup (by rfl) (pgs_cons (pg_name (i := 4) sc_joined_freely.nd rfl (.inl rfl)) (pgs_cons (pg_name (i := 5) sc_joined_freely.nd rfl (.inl rfl)) pgs_nil))))
      (pss_cons (ps_asg (pe_dn dNumbered hr (pa_cons (pv 1) (pa_cons pe_int (pa_cons (pe_lc (own := [("e", 6)]) (g := gName 6) (tt := tYes) rfl sc_joined_freely.nd (pi_tup (pe_tup (pa_cons pe_int (pa_cons pe_int pa_nil)))) (blkOk_by (N := ["one", "other", "keep", "wide", "rows_one", "first_one", "e", "rows_other", "first_other", "first", "codes", "place", "rows", "code", "row", "x", "y", "then", "ends", "c"]) (sc := defScope s_joined_freely) (by decide +kernel)) (fun _ _ _ _ _ => (pg_name (i := 6) sc_joined_freely.nd rfl (.inl rfl))) (fun _ _ _ _ _ => pts_nil) (fun _ _ _ _ _ => (pe_dn dVerdict hr (pa_cons (pe_tup (pa_cons (pe_ix (ix_anyK (K := K) rfl) (pe_ix (ix_anyK (K := K) rfl) (pv 2) pe_int (fun _ _ => rfl)) (pv 6) (fun _ _ => rfl)) (pa_cons (pe_ix (ix_anyK (K := K) rfl) (pe_ix (ix_anyK (K := K) rfl) (pv 2) pe_int (fun _ _ => rfl)) (pv 6) (fun _ _ => rfl)) pa_nil))) pa_nil)))) pa_nil)))) (pg_tup (by rfl) (pgs_cons (pg_name (i := 7) sc_joined_freely.nd rfl (.inl rfl)) (pgs_cons (pg_name (i := 8) sc_joined_freely.nd rfl (.inl rfl)) pgs_nil))))
      (pss_cons (ps_set (i := 9) sc_joined_freely.nd rfl (Or.inl rfl) (pe_op op_add (pv 5) (pv 8)))
      (pss_cons (ps_if (pt_cmpR op_lt (pv 9) pe_int (nomark _)) (pss_one (ps_set (i := 9) sc_joined_freely.nd rfl (Or.inl rfl) (pe_ifExp (pt_cmpR op_lt (pv 9) (pe_glob (v := .int (-35184372088832)) rfl hBETWEEN ⟨tBETWEEN, rfl⟩) (nomark _)) (pe_glob (v := .int (-1125899906842624)) rfl hSURELY_IN ⟨tSURELY_IN, rfl⟩) (pe_glob (v := .int (-1099511627776)) rfl hSURELY_OUT ⟨tSURELY_OUT, rfl⟩)))) pss_nil)
      (pss_cons (ps_set (i := 10) sc_joined_freely.nd rfl (Or.inl rfl) (pe_lst (pa_cons (pv 9) pa_nil)))
      (pss_cons (ps_set (i := 11) sc_joined_freely.nd rfl (Or.inl rfl) (MixD.pe_xdispW (w := w) rfl hu9 (pv 9) pe_int))
      (pss_cons (ps_set (i := 12) sc_joined_freely.nd rfl (Or.inl rfl) (pe_lst pa_nil))
      (pss_cons (ps_while PassesOwn.never (pt_cmpR op_lt (pe_callB (call_lenA (K := K) rfl) (by rfl) T.len PySem.boot_len (pa_cons (pv 12) pa_nil)) (pe_callB (call_lenA (K := K) rfl) (by rfl) T.len PySem.boot_len (pa_cons (pv 10) pa_nil)) (nomark _)) (pss_cons (ps_set (i := 13) sc_joined_freely.nd rfl (Or.inl rfl) (pe_ix (ix_anyK (K := K) rfl) (pv 10) (pe_callB (call_lenA (K := K) rfl) (by rfl) T.len PySem.boot_len (pa_cons (pv 12) pa_nil)) (fun _ _ => rfl)))
      (pss_cons (ps_if (pt_cmpR op_lt (pv 13) pe_int (nomark _)) (pss_cons (ps_expr (pe_bm PySem.F.plainAttrs_list PySem.F.slot_list_append PySem.F.type_list_append mt_append (pv 12) (pa_cons (pe_op (op_repTK (K := K) rfl) (pe_tup (pa_cons (pe_callB (call_lenA (K := K) rfl) (by rfl) T.len PySem.boot_len (pa_cons (pv 12) pa_nil)) pa_nil)) (pe_callB (call_lenA (K := K) rfl) (by rfl) T.len PySem.boot_len (pa_cons (pe_ix (ix_anyK (K := K) rfl) (pe_ix (ix_anyK (K := K) rfl) (pv 0) pe_int (fun _ _ => rfl)) pe_int (fun _ _ => rfl)) pa_nil))) pa_nil)))
      (pss_one ps_continue)) pss_nil)
      (pss_cons (ps_set (i := 14) sc_joined_freely.nd rfl (Or.inl rfl) (pe_lst pa_nil))
      (pss_cons (ps_for PassesOwn.never rfl (pi_zip (by rfl) T.zip (pa_cons (pe_ix (ix_anyK (K := K) rfl) (pv 4) (pe_op op_fdivN (pv 13) (pv 3)) (fun _ _ => rfl)) (pa_cons (pe_ix (ix_anyK (K := K) rfl) (pv 7) (pe_op op_modN (pv 13) (pv 3)) (fun _ _ => rfl)) pa_nil))) (pg_tup (by rfl) (pgs_cons (pg_name (i := 15) sc_joined_freely.nd rfl (.inl rfl)) (pgs_cons (pg_name (i := 16) sc_joined_freely.nd rfl (.inl rfl)) pgs_nil))) (pss_cons (ps_set (i := 17) sc_joined_freely.nd rfl (Or.inl rfl) (pe_op op_add (pv 15) (pv 16)))
      (pss_cons (ps_if (pt_cmpR op_lt (pv 17) pe_int (nomark _)) (pss_one (ps_set (i := 17) sc_joined_freely.nd rfl (Or.inl rfl) (pe_ifExp (pt_cmpR op_lt (pv 17) (pe_glob (v := .int (-35184372088832)) rfl hBETWEEN ⟨tBETWEEN, rfl⟩) (nomark _)) (pe_glob (v := .int (-1125899906842624)) rfl hSURELY_IN ⟨tSURELY_IN, rfl⟩) (pe_glob (v := .int (-1099511627776)) rfl hSURELY_OUT ⟨tSURELY_OUT, rfl⟩)))) pss_nil)
      (pss_cons (ps_if (pt_cmp (MixD.pc_xnotinW (w := w) rfl hu9 (pv 17) (pv 11))) (pss_cons (MixD.ps_xput hu9 (pv 11) (pv 17) (pe_callB (call_lenA (K := K) rfl) (by rfl) T.len PySem.boot_len (pa_cons (pv 10) pa_nil)) rfl)
      (pss_one (ps_expr (pe_bm PySem.F.plainAttrs_list PySem.F.slot_list_append PySem.F.type_list_append mt_append (pv 10) (pa_cons (pv 17) pa_nil))))) pss_nil)
      (pss_one (ps_expr (pe_bm PySem.F.plainAttrs_list PySem.F.slot_list_append PySem.F.type_list_append mt_append (pv 14) (pa_cons (MixD.pe_xgetW (w := w) rfl hu9 (pv 11) (pv 17) (fun _ _ => rfl)) pa_nil))))))))
      (pss_one (ps_expr (pe_bm PySem.F.plainAttrs_list PySem.F.slot_list_append PySem.F.type_list_append mt_append (pv 12) (pa_cons (pv 14) pa_nil)))))))))
      (pss_cons (ps_setLc (i := 18) (own := [("c", 19)]) (g := gName 19) (tt := tYes) rfl sc_joined_freely.nd rfl rfl (sw_true rfl rfl rfl (by decide +kernel)) (pi_anyK (K := K) rfl (pv 10)) (blkOk_by (N := ["one", "other", "keep", "wide", "rows_one", "first_one", "e", "rows_other", "first_other", "first", "codes", "place", "rows", "code", "row", "x", "y", "then", "ends", "c"]) (sc := defScope s_joined_freely) (by decide +kernel)) (fun _ _ _ _ _ => (pg_name (i := 19) sc_joined_freely.nd rfl (.inl rfl))) (fun _ _ _ _ _ => pts_nil) (fun _ _ _ _ _ => (pe_ifExp (pt_cmpR op_ge (pv 19) pe_int (nomark _)) (pe_ix (ix_tupBK (K := K) rfl) (pe_ix (ix_tupBK (K := K) rfl) (pv 2) (pe_ix (ix_anyK (K := K) rfl) (pe_ix (ix_anyK (K := K) rfl) (pv 0) pe_int (fun _ _ => rfl)) (pe_op op_fdivN (pv 19) (pv 3)) (fun _ _ => rfl)) (fun _ _ => rfl)) (pe_ix (ix_anyK (K := K) rfl) (pe_ix (ix_anyK (K := K) rfl) (pv 1) pe_int (fun _ _ => rfl)) (pe_op op_modN (pv 19) (pv 3)) (fun _ _ => rfl)) (fun _ _ => rfl)) (pe_cmpR op_eq (pv 19) (pe_glob (v := .int (-1125899906842624)) rfl hSURELY_IN ⟨tSURELY_IN, rfl⟩) (nomark _)))))
      (pss_one (ps_ret (pe_tup (pa_cons (pv 12) (pa_cons (pv 18) pa_nil))))))))))))))), ?_⟩
    obtain ⟨m1, r1, e1, ws1, rfl, hM1, hR1, hW1, hE1⟩ := id h1
    obtain ⟨m2, r2, e2, ws2, rfl, hM2, hR2, hW2, hE2⟩ := id h2
    obtain ⟨kp, kq, hk0, hkp, hkq⟩ := id hk
    have l1 : ws1.length = M.n := hW1.len
    have l2 : ws2.length = N.n := hW2.len
    have hsz : M.n * N.n ≤ 1000000 := Nat.le_trans (Nat.mul_le_mul hn1 hn2) (by decide)
    refine ⟨_, rfl, m2, _, _, _, rfl, rfl, .inr (SqT.of hM2), at0, r2, _, rfl, .inr (SqT.of hR2), ?_⟩
    rw [l2]
    refine normG (σ' := [some (.ref m1), some (.ref m2), some (.ref k), some (.int (N.n : Nat)), none, none, none, none, none, none, none, none, none, none, none, none, none, none, none, none]) rfl ?_
    refine ⟨_, rfl, _, rfl, sz2, fun t0 ht0 => ⟨t0, rfl, ⟨_, SqT.of upd_same⟩, fun D hD => ?_⟩⟩
    have s1 := same_new (o := .tup [.int 0, .int 1]) (Same.refl H) ht0
    obtain ⟨H1, eH1⟩ : ∃ X, X = upd H t0 (.tup [.int 0, .int 1]) := ⟨_, rfl⟩
    have ht1 : H1 t0 = some (.tup [.int 0, .int 1]) := by rw [eH1, upd_same]
    rw [← eH1] at s1 hD ⊢
    refine lc_all (walk_tup (K := K) (a := t0) (xs := [.int 0, .int 1])) hD (by simp) (fun i y _ => y = V.int (if i = 0 then verd (keep false false) (keep false true) else verd (keep true false) (keep true true))) (fun _ _ _ _ _ h => h) (fun H s => SqT.of (s _ _ ht1)) ?_ ?_
    · rintro i x H3 H4 R Nx zs hi s3 eD ⟨rfl, ex⟩ k3
      have sk := s1.trans s3
      match i, hi, ex with
      | 0, _, ex =>
        cases (Option.some.inj ex)
        exact ⟨rfl, yes_to ⟨_, rfl, _, rfl, k, _, _, _, rfl, rfl, .inr (sqT_same hk0 sk), at0, kp, _, _, rfl, sqT_same hkp sk, k3 _ _ (Same.refl _) rfl⟩⟩
      | 1, _, ex =>
        cases (Option.some.inj ex)
        exact ⟨rfl, yes_to ⟨_, rfl, _, rfl, k, _, _, _, rfl, rfl, .inr (sqT_same hk0 sk), at1, kq, _, _, rfl, sqT_same hkq sk, k3 _ _ (Same.refl _) rfl⟩⟩
    · intro ys H3 ly py s3 eD
      have eys := list_is ly py
      subst eys
      have eD : H3 D = some (.lst [V.int (verd (keep false false) (keep false true)), V.int (verd (keep true false) (keep true true))]) := eD
      have s13 := s1.trans s3
      refine ⟨_, D, M, _, _, _, rfl, h1.same s13, SqL.of eD, ok1, n1, hn1, hw, by omega, by omega, fun t1 la wa H4 s4 ht4 hla hwa => ?_⟩
      have s14 := s13.trans s4
      refine ⟨t1, _, rfl, SqT.of ht4, rfl, _, _, rfl, _, _, rfl, rfl, ?_⟩
      obtain ⟨v1, ev1⟩ : ∃ v1, v1 = setAt M (verd (keep false false) (keep false true)) (verd (keep true false) (keep true true)) := ⟨_, rfl⟩
      obtain ⟨v2, ev2⟩ : ∃ v2, v2 = setAt N (verd (keep false false) (keep true false)) (verd (keep false true) (keep true true)) := ⟨_, rfl⟩
      have Sr : ZA.Sure keep M N v1 v2 := by rw [ev1, ev2]; exact sure_of ok1 ok2 keep
      have enm1 : ∀ s, nm M (verd (keep false false) (keep false true)) (verd (keep true false) (keep true true)) (N.n : Nat) s = ZA.num (v1 s) (s * N.n) := fun s => by rw [ev1]; rfl
      have enm2 : ∀ s, nm N (verd (keep false false) (keep true false)) (verd (keep false true) (keep true true)) 1 s = ZA.num (v2 s) s := fun s => by
        rw [ev2]
        show ZA.num _ ((s : Int) * 1) = _
        rw [Int.mul_one]
      rw [enm1] at ht4 ⊢
      simp only [enm1] at hwa
      refine norm (N := fun σ _ => _) (σ' := [some (.ref m1), some (.ref m2), some (.ref k), some (.int (N.n : Nat)), some (.ref la), some (.int (ZA.num (v1 0) ((0 : Nat) * N.n))), none, none, none, none, none, none, none, none, none, none, none, none, none, none]) rfl ?_
      -- the other one
      refine ⟨_, rfl, sz2, fun t5 ht5 => ⟨t5, rfl, ⟨_, SqT.of upd_same⟩, fun D2 hD2 => ?_⟩⟩
      have s5 := same_new (o := .tup [.int 0, .int 1]) (Same.refl H4) ht5
      obtain ⟨H5, eH5⟩ : ∃ X, X = upd H4 t5 (.tup [.int 0, .int 1]) := ⟨_, rfl⟩
      have ht6 : H5 t5 = some (.tup [.int 0, .int 1]) := by rw [eH5, upd_same]
      rw [← eH5] at s5 hD2 ⊢
      refine lc_all (walk_tup (K := K) (a := t5) (xs := [.int 0, .int 1])) hD2 (by simp) (fun i y _ => y = V.int (if i = 0 then verd (keep false false) (keep true false) else verd (keep false true) (keep true true))) (fun _ _ _ _ _ h => h) (fun H s => SqT.of (s _ _ ht6)) ?_ ?_
      · rintro i x H6 H7 R Nx zs hi s6 eD2 ⟨rfl, ex⟩ k6
        have sk := (s14.trans s5).trans s6
        match i, hi, ex with
        | 0, _, ex =>
          cases (Option.some.inj ex)
          exact ⟨rfl, yes_to ⟨_, rfl, k, _, _, _, rfl, rfl, .inr (sqT_same hk0 sk), at0, _, rfl, kp, _, _, _, rfl, rfl, .inr (sqT_same hkp sk), at0, _, rfl, k, _, _, _, rfl, rfl, .inr (sqT_same hk0 sk), at1, _, rfl, kq, _, _, _, rfl, rfl, .inr (sqT_same hkq sk), at0, sz2, fun tt htt => ⟨tt, _, _, rfl, SqT.of upd_same, k6 _ _ (same_new (Same.refl _) htt) rfl⟩⟩⟩
        | 1, _, ex =>
          cases (Option.some.inj ex)
          exact ⟨rfl, yes_to ⟨_, rfl, k, _, _, _, rfl, rfl, .inr (sqT_same hk0 sk), at0, _, rfl, kp, _, _, _, rfl, rfl, .inr (sqT_same hkp sk), at1, _, rfl, k, _, _, _, rfl, rfl, .inr (sqT_same hk0 sk), at1, _, rfl, kq, _, _, _, rfl, rfl, .inr (sqT_same hkq sk), at1, sz2, fun tt htt => ⟨tt, _, _, rfl, SqT.of upd_same, k6 _ _ (same_new (Same.refl _) htt) rfl⟩⟩⟩
      · intro ys2 H6 ly2 py2 s6 eD2
        have eys := list_is ly2 py2
        subst eys
        have eD2 : H6 D2 = some (.lst [V.int (verd (keep false false) (keep true false)), V.int (verd (keep false true) (keep true true))]) := eD2
        have s16 := (s14.trans s5).trans s6
        refine ⟨_, D2, N, _, _, 1, rfl, h2.same s16, SqL.of eD2, ok2, n2, hn2, by omega, by omega, by omega, fun t6 lb wb H7 s7 ht7 hlb hwb => ?_⟩
        have s17 := s16.trans s7
        refine ⟨t6, _, rfl, SqT.of ht7, rfl, _, _, rfl, _, _, rfl, rfl, ?_⟩
        rw [enm2] at ht7 ⊢
        simp only [enm2] at hwb
        have hla7 := s7 _ _ (s6 _ _ (s5 _ _ hla))
        have hwa7 := (hwa.same (s5.trans s6)).same s7
        refine norm (N := fun σ _ => _) (σ' := [some (.ref m1), some (.ref m2), some (.ref k), some (.int (N.n : Nat)), some (.ref la), some (.int (ZA.num (v1 0) ((0 : Nat) * N.n))), none, some (.ref lb), some (.int (ZA.num (v2 0) (0 : Nat))), none, none, none, none, none, none, none, none, none, none, none]) rfl ?_
        refine ⟨_, rfl, _, rfl, _, _, rfl, rfl, ?_⟩
        refine normG (σ' := [some (.ref m1), some (.ref m2), some (.ref k), some (.int (N.n : Nat)), some (.ref la), some (.int (ZA.num (v1 0) ((0 : Nat) * N.n))), none, some (.ref lb), some (.int (ZA.num (v2 0) (0 : Nat))), some (.int (ZA.num (v1 0) ((0 : Nat) * N.n) + ZA.num (v2 0) (0 : Nat))), none, none, none, none, none, none, none, none, none, none]) rfl ?_
        refine clip_read rfl ?_
        obtain ⟨first, efi⟩ : ∃ first, first = ZA.code N v1 v2 0 0 := ⟨_, rfl⟩
        refine norm (N := fun σ _ => _) (σ' := [some (.ref m1), some (.ref m2), some (.ref k), some (.int (N.n : Nat)), some (.ref la), some (.int (ZA.num (v1 0) ((0 : Nat) * N.n))), none, some (.ref lb), some (.int (ZA.num (v2 0) (0 : Nat))), some (.int first), none, none, none, none, none, none, none, none, none, none]) (by rw [efi]; rfl) ?_
        have Fcl := pairs_closed Sr hsz hP
        obtain ⟨F, eF⟩ : ∃ F, F = P.map fun q => ZA.code N v1 v2 q.1 q.2 := ⟨_, rfl⟩
        have fF : first ∈ F := by rw [eF, efi]; exact List.mem_map.mpr ⟨_, hP.zero, rfl⟩
        have lF : F.length = P.length := by rw [eF]; exact List.length_map ..
        have cF : ∀ x ∈ F, ZA.PCode M N x := fun x hx => by
          rw [eF] at hx
          obtain ⟨⟨s, t⟩, h, rfl⟩ := List.mem_map.mp hx
          obtain ⟨hs, ht⟩ := hP.inn s t h
          exact (ZA.code_says Sr hsz hs ht).1
        rw [← eF] at Fcl
        refine ⟨_, rfl, sz1, fun Cd hCd => ?_⟩
        have s8 := same_new (o := .lst [.int first]) (Same.refl H7) hCd
        refine normG (σ' := [some (.ref m1), some (.ref m2), some (.ref k), some (.int (N.n : Nat)), some (.ref la), some (.int (ZA.num (v1 0) ((0 : Nat) * N.n))), none, some (.ref lb), some (.int (ZA.num (v2 0) (0 : Nat))), some (.int first), some (.ref Cd), none, none, none, none, none, none, none, none, none]) rfl ?_
        refine fun Pl hPl => ⟨_, rfl, upd_same, .num first, .int _, dep_num, fun es xPl => ?_⟩
        have s9 := same_upd (o := MixD.mixO Pl es) (same_new (o := MixD.mixO Pl []) s8 hPl) (none_back s8 hPl)
        have nCP : Cd ≠ Pl := (none_ne hPl).symm
        obtain ⟨H9, eH9⟩ : ∃ X, X = upd (upd (upd H7 Cd (.lst [.int first])) Pl (MixD.mixO Pl [])) Pl (MixD.mixO Pl es) := ⟨_, rfl⟩
        have eC9 : H9 Cd = some (.lst [.int first]) := by rw [eH9, upd_ne nCP, upd_ne nCP, upd_same]
        have hPl7 : H7 Pl = none := none_back s8 hPl
        rw [← eH9] at xPl s9 ⊢
        refine normG (σ' := [some (.ref m1), some (.ref m2), some (.ref k), some (.int (N.n : Nat)), some (.ref la), some (.int (ZA.num (v1 0) ((0 : Nat) * N.n))), none, some (.ref lb), some (.int (ZA.num (v2 0) (0 : Nat))), some (.int first), some (.ref Cd), some (.ref Pl), none, none, none, none, none, none, none, none]) rfl ?_
        refine ⟨Nat.zero_le _, fun Rw hRw => ?_⟩
        have s10 := same_new (o := .lst []) s9 hRw
        have hRw7 : H7 Rw = none := none_back s9 hRw
        have nCR : Cd ≠ Rw := ne_of_none eC9 hRw
        have nPR : Pl ≠ Rw := by obtain ⟨q, e⟩ := xd_obj xPl; exact ne_of_none e hRw
        refine normG (σ' := [some (.ref m1), some (.ref m2), some (.ref k), some (.int (N.n : Nat)), some (.ref la), some (.int (ZA.num (v1 0) ((0 : Nat) * N.n))), none, some (.ref lb), some (.int (ZA.num (v2 0) (0 : Nat))), some (.int first), some (.ref Cd), some (.ref Pl), some (.ref Rw), none, none, none, none, none, none, none]) rfl ?_
        have muR : ∀ (H' : Hp) (xs : List V), H' Rw = some (.lst xs) → (match H' Rw with | some (.lst xs) => P.length - xs.length | _ => 0) = P.length - xs.length := fun H' xs e => by rw [e]
        refine while_by (fun σ H' => ∃ (v13 v14 v15 v16 v17 : Option V) (met : List Int) (rws : List (List Nat)) (rvs : List V), σ = [some (.ref m1), some (.ref m2), some (.ref k), some (.int (N.n : Nat)), some (.ref la), some (.int (ZA.num (v1 0) ((0 : Nat) * N.n))), none, some (.ref lb), some (.int (ZA.num (v2 0) (0 : Nat))), some (.int first), some (.ref Cd), some (.ref Pl), some (.ref Rw), v13, v14, v15, v16, v17, none, none] ∧ H' Cd = some (.lst (met.map V.int)) ∧ MixD.XD w H' Pl (plG .num met) ∧ H' Rw = some (.lst rvs) ∧ RwA H' rvs rws ∧
          (∀ a, V.ref a ∈ rvs → a ≠ Cd ∧ a ≠ Pl ∧ a ≠ Rw) ∧ ZA.EPart M.w (ZA.prodF M N v1 v2) first F met rws [] ∧ Same H7 H') (fun _ H' => match H' Rw with | some (.lst xs) => P.length - xs.length | _ => 0)
          ⟨none, none, none, none, none, [first], [], [], rfl, by rw [upd_ne nCR]; exact eC9, xPl.up (fun a vs q => (same_new (Same.refl _) hRw) _ _ q) (upd_ne nPR), upd_same, .nil, fun a h => by simp at h, ZA.EPart.start fF, s10⟩ ?_ ?_
        · rintro σ H10 ⟨v13, v14, v15, v16, v17, met, rws, rvs, rfl, eC, xP, eR, hA, ap, pt, sA⟩
          have few := pt.few
          have lrv := hA.len
          have fz := pt.le
          refine ⟨_, rfl, Rw, _, rfl, .inl (SqL.of eR), _, rfl, Cd, _, rfl, .inl (SqL.of eC), _, _, rfl, rfl, _, rfl, ite2 (fun z => ?_) (fun z => ?_)⟩
          · have z : rws.length < met.length := by
              have := of_decide_eq_true z
              rw [List.length_map] at this
              omega
            obtain ⟨x, hx⟩ : ∃ x, met[rws.length]? = some x := ⟨_, List.getElem?_eq_getElem z⟩
            have xF := pt.inF x (List.mem_of_getElem? hx)
            have xC := cF x xF
            refine ⟨_, rfl, _, rfl, Rw, _, rfl, .inl (SqL.of eR), Cd, _, _, _, rfl, rfl, .inl (SqL.of eC), atN (by rw [lrv, List.getElem?_map, hx]; rfl), ?_⟩
            refine normG (σ' := [some (.ref m1), some (.ref m2), some (.ref k), some (.int (N.n : Nat)), some (.ref la), some (.int (ZA.num (v1 0) ((0 : Nat) * N.n))), none, some (.ref lb), some (.int (ZA.num (v2 0) (0 : Nat))), some (.int first), some (.ref Cd), some (.ref Pl), some (.ref Rw), some (.int x), v14, v15, v16, v17, none, none]) rfl ?_
            dsimp only
            by_cases hx0 : x < 0
            · refine ⟨_, rfl, _, _, rfl, rfl, _, rfl, if_yes (decide_eq_true hx0) ?_⟩
              obtain ⟨row0, hrow0⟩ : ∃ row0, M.rows[0]? = some row0 := ⟨_, row_get n1⟩
              obtain ⟨a0, ha0, hz0⟩ := hW1.get hrow0
              have lr0 := ok1.wide 0 row0 hrow0
              have s17A := s17.trans sA
              refine ⟨_, rfl, .inl ⟨rfl, _, SqL.of eR⟩, _, rfl, Rw, _, rfl, .inl (SqL.of eR), sz1, fun tt htt => ?_⟩
              have sT := same_new (o := .tup [V.int (rvs.length : Nat)]) (Same.refl H10) htt
              have sTA := s17A.trans sT
              refine ⟨_, rfl, m1, _, _, _, rfl, rfl, .inr (SqT.of (sTA _ _ hM1)), at0, r1, _, _, _, rfl, rfl, .inr (SqT.of (sTA _ _ hR1)), atN (j := 0) ha0, a0, _, rfl, .inr (hz0.same sTA).sqT, tt, _, _, rfl, rfl, SqT.of upd_same, by simp, by rw [List.length_map, lr0]; omega, by rw [List.length_map, lr0]; omega, by simp, fun p hp => ?_⟩
              rw [List.length_map, lr0, Int.toNat_natCast, rep_flat, lrv]
              have sP := same_new (o := .tup (List.replicate M.w (V.int (rws.length : Nat)))) sT hp
              obtain ⟨H11, eH11⟩ : ∃ X, X = upd (upd H10 tt (.tup [V.int (rvs.length : Nat)])) p (.tup (List.replicate M.w (V.int (rws.length : Nat)))) := ⟨_, rfl⟩
              have hp11 : H11 p = some (.tup (List.replicate M.w (V.int (rws.length : Nat)))) := by rw [eH11, upd_same]
              rw [lrv] at eH11 sP
              rw [← eH11] at sP ⊢
              have eR11 := sP _ _ eR
              refine ⟨Rw, _, _, rfl, rfl, eR11, szL _ (by omega), ?_⟩
              have nap : ∀ a, V.ref a ∈ rvs ++ [.ref p] → a ≠ Cd ∧ a ≠ Pl ∧ a ≠ Rw := fun a ha => by
                rcases List.mem_append.mp ha with h | h
                · exact ap a h
                · cases (List.mem_singleton.mp h)
                  obtain ⟨q, e⟩ := xd_obj xP
                  refine ⟨fun y => ?_, fun y => ?_, fun y => ?_⟩
                  · rw [y, sP _ _ eC] at hp11; cases hp11
                  · rw [y, sP _ _ e] at hp11; unfold MixD.mixO at hp11; cases hp11
                  · rw [y, eR11] at hp11; cases hp11
              have hA11 : RwA (upd H11 Rw (.lst (rvs ++ [.ref p]))) (rvs ++ [.ref p]) (rws ++ [List.replicate M.w rws.length]) := ((hA.same sP).snoc (a := p) (r := List.replicate M.w rws.length) (.inr (.inl (by rw [hp11, List.map_replicate]; rfl)))).mono fun a r ha hq => hq.at (upd_ne (nap a ha).2.2)
              have xP11 := (xP.up (fun a vs q => sP _ _ q) (by obtain ⟨q, e⟩ := xd_obj xP; rw [sP _ _ e, e])).up (fun a vs q => TSame.updL eR11 a vs q) (upd_ne (o := .lst (rvs ++ [.ref p])) nPR)
              have selfs : ∀ c, ZA.EPart M.w (ZA.prodF M N v1 v2) first F met rws (List.replicate c rws.length) := fun c => by
                induction c with
                | zero => exact pt
                | succ c ih =>
                  rw [List.replicate_succ']
                  refine ih.old hx ?_
                  have : ZA.prodF M N v1 v2 x (List.replicate c rws.length).length = x := if_pos hx0
                  rw [this]
                  exact hx
              refine ⟨⟨_, _, _, _, _, met, rws ++ [List.replicate M.w rws.length], rvs ++ [.ref p], rfl, by rw [upd_ne nCR]; exact sP _ _ eC, xP11, upd_same, hA11, nap, (selfs M.w).turn hx (by simp), same_upd (sA.trans sP) hRw7⟩, ?_⟩
              rw [muR _ _ upd_same, muR _ _ eR, List.length_append]
              simp
              omega
            · refine ⟨_, rfl, _, _, rfl, rfl, _, rfl, if_no (decide_eq_false hx0) (un_next ?_)⟩
              have xin : 0 ≤ x ∧ x < M.n * N.n := by
                rcases xC with h | h | h
                · exact absurd (by rw [h]; decide) hx0
                · exact absurd (by rw [h]; decide) hx0
                · exact h
              obtain ⟨hs, ht⟩ := ZA.code_of xin.1 xin.2
              obtain ⟨s, es⟩ : ∃ s, s = (x / (N.n : Int)).toNat := ⟨_, rfl⟩
              obtain ⟨t, et⟩ : ∃ t, t = (x % (N.n : Int)).toNat := ⟨_, rfl⟩
              rw [← es] at hs
              rw [← et] at ht
              have ds : x.fdiv (N.n : Int) = (s : Int) := by
                rw [Int.fdiv_eq_ediv_of_nonneg _ (by omega), es]
                have := Int.ediv_nonneg xin.1 (show (0 : Int) ≤ N.n by omega)
                omega
              have dt : x.fmod (N.n : Int) = (t : Int) := by
                rw [Int.fmod_eq_emod_of_nonneg _ (by omega), et]
                have := Int.emod_nonneg x (show (N.n : Int) ≠ 0 by omega)
                omega
              refine ⟨Nat.zero_le _, fun Ro hRo => ?_⟩
              have sO := same_new (o := .lst []) (Same.refl H10) hRo
              refine normG (σ' := [some (.ref m1), some (.ref m2), some (.ref k), some (.int (N.n : Nat)), some (.ref la), some (.int (ZA.num (v1 0) ((0 : Nat) * N.n))), none, some (.ref lb), some (.int (ZA.num (v2 0) (0 : Nat))), some (.int first), some (.ref Cd), some (.ref Pl), some (.ref Rw), some (.int x), some (.ref Ro), v15, v16, v17, none, none]) rfl ?_
              have eC0 := sO _ _ eC
              have eR0 := sO _ _ eR
              have nCO : Cd ≠ Ro := ne_of_none eC hRo
              have nRO : Rw ≠ Ro := ne_of_none eR hRo
              have nPO : Pl ≠ Ro := by obtain ⟨q, e⟩ := xd_obj xP; exact ne_of_none e hRo
              have apO : ∀ a, V.ref a ∈ rvs → a ≠ Ro := fun a ha => by obtain ⟨r, h⟩ := hA.has ha; exact h.ne hRo
              have hRo7 : H7 Ro = none := none_back sA hRo
              have hCd7 : H7 Cd = none := hCd
              obtain ⟨ra, hra, hza⟩ := hwa7.get (i := s) (r := (M.rows.getD s []).map fun u => V.int (ZA.num (v1 u) (u * N.n))) (by rw [List.getElem?_map, row_get hs]; rfl)
              obtain ⟨rb, hrb, hzb⟩ := hwb.get (i := t) (r := (N.rows.getD t []).map fun u => V.int (ZA.num (v2 u) u)) (by rw [List.getElem?_map, row_get ht]; rfl)
              have s7O := sA.trans sO
              have lw1 := ok1.wide s _ (row_get hs)
              have lw2 := ok2.wide t _ (row_get ht)
              refine ⟨_, rfl, _, rfl, _, rfl, _, _, rfl, rfl, ⟨by omega, by omega⟩, la, wa, _, _, rfl, rfl, .inl (SqL.of (s7O _ _ hla7)), by rw [ds]; exact atN hra, _, rfl, _, rfl, _, rfl, _, _, rfl, rfl, (by show (N.n : Int) ≠ 0; omega), lb, wb, _, _, rfl, rfl, .inl (SqL.of (s7O _ _ hlb)), by rw [dt]; exact atN hrb, ra, rb, _, _, rfl, SqL.of (s7O _ _ hza), SqL.of (s7O _ _ hzb), ?_⟩
              refine for_it (walk_zip (K := K) (a := ra) (b := rb) (n := M.w) (by rw [List.length_map, List.length_map, lw1, lw2, ww]; simp)) (fun c σ H' => ∃ (v15 v16 v17 : Option V) (met : List Int) (row : List Nat), σ = [some (.ref m1), some (.ref m2), some (.ref k), some (.int (N.n : Nat)), some (.ref la), some (.int (ZA.num (v1 0) ((0 : Nat) * N.n))), none, some (.ref lb), some (.int (ZA.num (v2 0) (0 : Nat))), some (.int first), some (.ref Cd), some (.ref Pl), some (.ref Rw), some (.int x), some (.ref Ro), v15, v16, v17, none, none] ∧ H' Cd = some (.lst (met.map V.int)) ∧ MixD.XD w H' Pl (plG .num met) ∧
                H' Rw = some (.lst rvs) ∧ RwA H' rvs rws ∧ H' Ro = some (.lst (row.map nV)) ∧ row.length = c ∧ ZA.EPart M.w (ZA.prodF M N v1 v2) first F met rws row ∧ met[rws.length]? = some x ∧ Same H7 H')
                ⟨_, _, _, met, [], rfl, eC0, xP.up (fun a vs q => sO _ _ q) (by obtain ⟨q, e⟩ := xd_obj xP; rw [sO _ _ e, e]), eR0, hA.same sO, upd_same, rfl, pt, hx, s7O⟩ (fun c σ H' _ ⟨_, _, _, _, _, _, _, _, _, _, _, _, _, _, s⟩ => ⟨SqL.of (s _ _ hza), SqL.of (s _ _ hzb)⟩) ?_ ?_
              · rintro c xv σ H11 H12 hc ⟨v15, v16, v17, met, row, rfl, eC, xP, eR, hA, eO, lr, pt, hx, sB⟩ ⟨U, y1, y2, rfl, hU, rfl, ey1, ey2⟩
                have few := pt.few
                have ey1 : ((M.rows.getD s []).map fun u => V.int (ZA.num (v1 u) (u * N.n)))[c]? = some y1 := ey1
                have ey2 : ((N.rows.getD t []).map fun u => V.int (ZA.num (v2 u) u))[c]? = some y2 := ey2
                rw [List.getElem?_map, row_to ok1 hs hc] at ey1
                rw [List.getElem?_map, row_to ok2 ht (by omega)] at ey2
                cases ey1
                cases ey2
                have sU := same_new (o := .tup [V.int (ZA.num (v1 (M.to s c)) (M.to s c * N.n)), V.int (ZA.num (v2 (N.to t c)) (N.to t c))]) (Same.refl H11) hU
                refine ⟨U, _, rfl, SqT.of upd_same, rfl, _, _, rfl, _, _, rfl, rfl, ?_⟩
                obtain ⟨H12, eH12⟩ : ∃ X, X = upd H11 U (.tup [V.int (ZA.num (v1 (M.to s c)) (M.to s c * N.n)), V.int (ZA.num (v2 (N.to t c)) (N.to t c))]) := ⟨_, rfl⟩
                rw [← eH12] at sU ⊢
                have eC := sU _ _ eC
                have eR := sU _ _ eR
                have eO := sU _ _ eO
                have xP := xP.up (fun a vs q => sU _ _ q) (by obtain ⟨q, e⟩ := xd_obj xP; rw [sU _ _ e, e])
                have hA := hA.same sU
                have sC := sB.trans sU
                refine norm (N := fun σ _ => _) (σ' := [some (.ref m1), some (.ref m2), some (.ref k), some (.int (N.n : Nat)), some (.ref la), some (.int (ZA.num (v1 0) ((0 : Nat) * N.n))), none, some (.ref lb), some (.int (ZA.num (v2 0) (0 : Nat))), some (.int first), some (.ref Cd), some (.ref Pl), some (.ref Rw), some (.int x), some (.ref Ro), some (.int (ZA.num (v1 (M.to s c)) (M.to s c * N.n))), some (.int (ZA.num (v2 (N.to t c)) (N.to t c))), v17, none, none]) rfl ?_
                refine ⟨_, rfl, _, rfl, _, _, rfl, rfl, ?_⟩
                refine normG (σ' := [some (.ref m1), some (.ref m2), some (.ref k), some (.int (N.n : Nat)), some (.ref la), some (.int (ZA.num (v1 0) ((0 : Nat) * N.n))), none, some (.ref lb), some (.int (ZA.num (v2 0) (0 : Nat))), some (.int first), some (.ref Cd), some (.ref Pl), some (.ref Rw), some (.int x), some (.ref Ro), some (.int (ZA.num (v1 (M.to s c)) (M.to s c * N.n))), some (.int (ZA.num (v2 (N.to t c)) (N.to t c))), some (.int (ZA.num (v1 (M.to s c)) (M.to s c * N.n) + ZA.num (v2 (N.to t c)) (N.to t c))), none, none]) rfl ?_
                refine clip_read rfl ?_
                obtain ⟨y, ey⟩ : ∃ y, y = ZA.prodF M N v1 v2 x c := ⟨_, rfl⟩
                have eyc : y = ZA.clip (ZA.num (v1 (M.to s c)) (M.to s c * N.n) + ZA.num (v2 (N.to t c)) (N.to t c)) := by
                  rw [ey, es, et]
                  exact if_neg hx0
                refine norm (N := fun σ _ => _) (σ' := [some (.ref m1), some (.ref m2), some (.ref k), some (.int (N.n : Nat)), some (.ref la), some (.int (ZA.num (v1 0) ((0 : Nat) * N.n))), none, some (.ref lb), some (.int (ZA.num (v2 0) (0 : Nat))), some (.int first), some (.ref Cd), some (.ref Pl), some (.ref Rw), some (.int x), some (.ref Ro), some (.int (ZA.num (v1 (M.to s c)) (M.to s c * N.n))), some (.int (ZA.num (v2 (N.to t c)) (N.to t c))), some (.int y), none, none]) (by rw [eyc]; rfl) ?_
                dsimp only
                refine mid (fun σ' H' => ∃ (met2 : List Int) (b : Nat), σ' = [some (.ref m1), some (.ref m2), some (.ref k), some (.int (N.n : Nat)), some (.ref la), some (.int (ZA.num (v1 0) ((0 : Nat) * N.n))), none, some (.ref lb), some (.int (ZA.num (v2 0) (0 : Nat))), some (.int first), some (.ref Cd), some (.ref Pl), some (.ref Rw), some (.int x), some (.ref Ro), some (.int (ZA.num (v1 (M.to s c)) (M.to s c * N.n))), some (.int (ZA.num (v2 (N.to t c)) (N.to t c))), some (.int y), none, none] ∧ H' Cd = some (.lst (met2.map V.int)) ∧ MixD.XD w H' Pl (plG .num met2) ∧
                  H' Rw = some (.lst rvs) ∧ RwA H' rvs rws ∧ H' Ro = some (.lst (row.map nV)) ∧ ZA.EPart M.w (ZA.prodF M N v1 v2) first F met2 rws (row ++ [b]) ∧ met2[rws.length]? = some x ∧ MixD.val (plG .num met2) (.num y) = some (.int (b : Nat)) ∧ Same H7 H') (fun key => ?_) ?_
                · refine ⟨_, rfl, _, rfl, Pl, _, .num y, rfl, xP, .int _, dep_num, _, rfl, ite2 (fun q => ?_) (fun q => ?_)⟩
                  · have new : y ∉ met := fun h => by
                      obtain ⟨i, hi⟩ := List.mem_iff_getElem?.mp h
                      rw [plG_val numk_inj pt.nd hi] at q
                      cases q
                    refine ⟨_, rfl, Cd, _, rfl, .inl (SqL.of eC), _, rfl, _, rfl, Pl, _, .num y, rfl, xP, .int _, dep_num, szL _ (by rw [plG_len]; omega), fun es5 x5 => ?_⟩
                    rw [List.length_map, plG_put numk_inj new] at x5
                    obtain ⟨es3, hP3⟩ := xd_obj xP
                    obtain ⟨H13, eH13⟩ : ∃ X, X = upd H12 Pl (MixD.mixO Pl es5) := ⟨_, rfl⟩
                    have k13 : ∀ b, b ≠ Pl → H13 b = H12 b := fun b hb => by rw [eH13, upd_ne hb]
                    have s13 : Same H7 H13 := by rw [eH13]; exact same_upd sC hPl7
                    rw [← eH13] at x5 ⊢
                    have eC13 := (k13 Cd nCP).trans eC
                    refine ⟨_, rfl, .inl ⟨rfl, _, SqL.of eC13⟩, _, rfl, Cd, _, _, rfl, rfl, eC13, szL _ (by rw [List.length_map]; omega), ?_⟩
                    have k14 : ∀ b, b ≠ Cd → upd H13 Cd (.lst (met.map V.int ++ [.int y])) b = H13 b := fun b hb => upd_ne hb
                    have pn := pt.new Fcl (by omega) hx (by rw [lr, ← ey]; exact new)
                    rw [lr, ← ey] at pn
                    refine key _ _ ⟨met ++ [y], met.length, rfl, by rw [upd_same, List.map_append]; rfl, x5.up (fun a vs q => TSame.updL eC13 a vs q) (k14 Pl nCP.symm), ?_, ?_, ?_, pn, ?_, ?_, same_upd s13 hCd7⟩
                    · rw [k14 Rw nCR.symm, k13 Rw nPR.symm]
                      exact eR
                    · exact hA.mono fun a r ha hq => hq.at ((k14 a (ap a ha).1).trans (k13 a (ap a ha).2.1))
                    · rw [k14 Ro nCO.symm, k13 Ro nPO.symm]
                      exact eO
                    · rw [List.getElem?_append_left (List.getElem?_eq_some_iff.mp hx).1]
                      exact hx
                    · exact plG_val numk_inj pn.nd (by rw [List.getElem?_append_right (Nat.le_refl _), Nat.sub_self]; rfl)
                  · obtain ⟨i, hi⟩ : ∃ i : Nat, met[i]? = some y := by
                      refine List.mem_iff_getElem?.mp (Classical.byContradiction fun no => q ?_)
                      rw [MixD.val_none (plG_no numk_inj no)]
                      rfl
                    exact un_next (key _ _ ⟨met, i, rfl, eC, xP, eR, hA, eO, pt.old hx (by rw [lr, ← ey]; exact hi), hx, plG_val numk_inj pt.nd hi, sC⟩)
                · rintro σ H13 ⟨met2, b, rfl, eC, xP, eR, hA, eO, pt2, hx2, hv, sD⟩
                  refine ⟨_, rfl, .inl ⟨rfl, _, SqL.of eO⟩, _, rfl, _, rfl, Pl, _, .num y, _, rfl, xP, .int _, dep_num, hv, Ro, _, _, rfl, rfl, eO, szL _ (by rw [List.length_map]; omega), ?_⟩
                  refine ⟨_, _, _, met2, row ++ [b], rfl, by rw [upd_ne nCO]; exact eC, xP.up (fun a vs q => TSame.updL eO a vs q) (upd_ne nPO), by rw [upd_ne nRO]; exact eR, hA.mono fun a r ha hq => hq.at (upd_ne (apO a ha)), by rw [upd_same, List.map_append]; rfl, by rw [List.length_append, lr]; rfl, pt2, hx2, same_upd sD hRo7⟩
              · rintro σ H11 ⟨v15, v16, v17, met, row, rfl, eC, xP, eR, hA, eO, lr, pt, hx, sB⟩
                refine ⟨_, rfl, .inl ⟨rfl, _, SqL.of eR⟩, _, rfl, Rw, _, _, rfl, rfl, eR, szL _ (by have := pt.few; have := pt.le; omega), ?_⟩
                have nap : ∀ a, V.ref a ∈ rvs ++ [.ref Ro] → a ≠ Cd ∧ a ≠ Pl ∧ a ≠ Rw := fun a ha => by
                  rcases List.mem_append.mp ha with h | h
                  · exact ap a h
                  · cases (List.mem_singleton.mp h)
                    exact ⟨nCO.symm, nPO.symm, nRO.symm⟩
                refine ⟨⟨_, _, _, _, _, met, rws ++ [row], rvs ++ [.ref Ro], rfl, by rw [upd_ne nCR]; exact eC, xP.up (fun a vs q => TSame.updL eR a vs q) (upd_ne nPR), upd_same, (hA.snoc (.inl eO)).mono fun a r ha hq => hq.at (upd_ne (nap a ha).2.2), nap, pt.turn hx lr, same_upd sB hRw7⟩, ?_⟩
                rw [muR _ _ upd_same, muR _ _ ‹_›, List.length_append]
                have := pt.few
                have := (List.getElem?_eq_some_iff.mp hx).1
                simp
                omega
          · have z : rws.length = met.length := by
              have h1 : ¬ ((rvs.length : Int) < ((met.map V.int).length : Int)) := fun y => z (decide_eq_true y)
              rw [List.length_map] at h1
              omega
            obtain ⟨okC, lgC⟩ := ZA.joined_lang Sr ok1 ok2 ww hsz n1 n2 (by rw [← efi]; exact pt.done z)
            have eC' := eC
            refine any_var rfl (xs := met.map V.int) (.inl eC) (fun J wk => ?_)
            intro D5 hD5
            have s710 := s17.trans sA
            refine lc_all wk hD5 (by rw [List.length_map]; omega) (fun i y _ => ∀ x, met[i]? = some x → y = V.bl (ZA.prodEnd keep M N x)) (fun _ _ _ _ _ h => h) (fun H8 s8 => by rw [s8 _ _ eC, eC]) ?_ ?_
            · rintro i xv H11 H12 Rr Nn zs hi s11 eD5 ⟨rfl, ex⟩ k11
              obtain ⟨x, hx, rfl⟩ := map_at ex
              have xC := cF x (pt.inF x (List.mem_of_getElem? hx))
              have s711 := s710.trans s11
              refine ⟨rfl, yes_to ⟨_, rfl, _, _, rfl, rfl, _, rfl, ite2 (fun y => ?_) (fun y => ?_)⟩⟩
              · have y : (0 : Int) ≤ x := of_decide_eq_true y
                have xin : 0 ≤ x ∧ x < M.n * N.n := by
                  rcases xC with h | h | h
                  · rw [h] at y; exact absurd y (by decide)
                  · rw [h] at y; exact absurd y (by decide)
                  · exact h
                obtain ⟨hs, ht⟩ := ZA.code_of xin.1 xin.2
                have ds : x.fdiv (N.n : Int) = ((x / (N.n : Int)).toNat : Int) := by
                  rw [Int.fdiv_eq_ediv_of_nonneg _ (by omega)]
                  have := Int.ediv_nonneg xin.1 (show (0 : Int) ≤ N.n by omega)
                  omega
                have dt : x.fmod (N.n : Int) = ((x % (N.n : Int)).toNat : Int) := by
                  rw [Int.fmod_eq_emod_of_nonneg _ (by omega)]
                  have := Int.emod_nonneg x (show (N.n : Int) ≠ 0 by omega)
                  omega
                have kv : ∀ a : Bool, ∃ pp, ([V.ref kp, V.ref kq] : List V)[if a = true then 1 else 0]? = some (.ref pp) ∧ ∀ b : Bool, ∃ xs, SqT K H12 pp xs ∧ xs[if b = true then 1 else 0]? = some (V.bl (keep a b)) := fun a => by
                  cases a
                  · exact ⟨kp, rfl, fun b => ⟨_, sqT_same hkp s711, by cases b <;> rfl⟩⟩
                  · exact ⟨kq, rfl, fun b => ⟨_, sqT_same hkq s711, by cases b <;> rfl⟩⟩
                obtain ⟨pp, hpp, hb2⟩ := kv (M.endAt (x / (N.n : Int)).toNat)
                obtain ⟨xs2, hx2, hv2⟩ := hb2 (N.endAt (x % (N.n : Int)).toNat)
                refine ⟨_, rfl, _, rfl, m1, _, _, _, rfl, rfl, .inr (SqT.of (s711 _ _ hM1)), at1, _, rfl, _, rfl, _, _, rfl, rfl, ⟨by omega, by omega⟩, e1, _, _, _, rfl, rfl, .inr (SqT.of (s711 _ _ hE1)), by rw [ds]; exact atN (by rw [List.getElem?_map, end_get ok1 hs]; rfl), k, _, _, _, rfl, rfl, sqT_same hk0 s711, hpp, _, rfl, m2, _, _, _, rfl, rfl, .inr (SqT.of (s711 _ _ hM2)), at1, _, rfl, _, rfl, _, _, rfl, rfl, (by show (N.n : Int) ≠ 0; omega), e2, _, _, _, rfl, rfl, .inr (SqT.of (s711 _ _ hE2)), by rw [dt]; exact atN (by rw [List.getElem?_map, end_get ok2 ht]; rfl), pp, xs2, _, _, rfl, rfl, hx2, hv2, k11 _ _ (Same.refl _) ?_⟩
                intro x' hx'
                rw [hx] at hx'
                cases hx'
                unfold ZA.prodEnd
                rw [if_neg (by omega)]
              · have y : x < 0 := by
                  have : ¬ (0 : Int) ≤ x := fun h => y (decide_eq_true h)
                  omega
                refine ⟨_, rfl, rfl, k11 _ _ (Same.refl _) ?_⟩
                intro x' hx'
                rw [hx] at hx'
                cases hx'
                unfold ZA.prodEnd
                rw [if_pos y]
                show V.bl (decide (V.int x = V.int (-1125899906842624))) = V.bl (decide (x = ZA.sIn))
                congr 1
                by_cases h : x = ZA.sIn
                · rw [decide_eq_true h]
                  exact decide_eq_true (by rw [h]; rfl)
                · rw [decide_eq_false h]
                  exact decide_eq_false fun q => h (by injection q)
            · intro ys H11 ly py s11 eD5
              rw [List.length_map] at ly
              rw [list_maps ly py] at eD5
              refine normG (σ' := [some (.ref m1), some (.ref m2), some (.ref k), some (.int (N.n : Nat)), some (.ref la), some (.int (ZA.num (v1 0) ((0 : Nat) * N.n))), none, some (.ref lb), some (.int (ZA.num (v2 0) (0 : Nat))), some (.int first), some (.ref Cd), some (.ref Pl), some (.ref Rw), v13, v14, v15, v16, v17, some (.ref D5), none]) rfl ?_
              refine ⟨_, rfl, _, rfl, sz2, fun tr htr => ?_⟩
              have s12 := same_new (o := .tup [V.ref Rw, V.ref D5]) (Same.refl H11) htr
              have fl := pt.few
              refine q tr ⟨M.w, rws, met.map (ZA.prodEnd keep M N)⟩ _ ((s710.trans s11).trans s12) ⟨tr, Rw, D5, rfl, upd_same, ⟨rvs, .inl (s12 _ _ (s11 _ _ eR)), hA.same (s11.trans s12)⟩, .inl (by rw [s12 _ _ eD5, List.map_map]; rfl)⟩ okC rfl ?_ ?_ lgC
              · show 0 < rws.length
                rw [z]
                have := (List.getElem?_eq_some_iff.mp pt.zero).1
                omega
              · show rws.length ≤ _
                omega
        · rintro σ H2 Q1 Q2 hq ⟨x, hx, p, ys, e1, e2, x', hx', p', ys', e3, e4, i, j, e5, e6, b, e7, z⟩
          exact ⟨x, hx, p, ys, e1, e2, x', hx', p', ys', e3, e4, i, j, e5, e6, b, e7, hq _ _ z⟩
end
end K01
set_option maxHeartbeats 4000000
namespace K01
open PySem PySem.Spec PyProof.Rows L2 Z
def spSums : Sp := fun vs H Q _ => ∃ (a : Addr) (fs : List Int), vs = [.ref a] ∧ Sq H a (fs.map V.int) ∧ fs.length ≤ 4 ∧ ∀ l H', Same H H' → H' l = some (.lst ((ZA.dsums fs).map V.int)) → Q (.ref l) H'
def spFol {α : Type} (VR : Hp → α → V → Prop) (fol : α → Nat → α) (F : List α) (w' : Nat) (ls : List Int) : Sp := fun vs H Q _ => ∃ x v c d, vs = [v, .int d] ∧ VR H x v ∧ x ∈ F ∧ c < w' ∧ ls[c]? = some d ∧ ∀ v' H', Same H H' → VR H' (fol x c) v' → Q v' H'
def spEnd {α : Type} (VR : Hp → α → V → Prop) (isEnd : α → Bool) (F : List α) : Sp := fun vs H Q _ => ∃ x v, vs = [v] ∧ VR H x v ∧ x ∈ F ∧ Q (.bl (isEnd x)) H
/-- how values stand for states -/
structure Rep {α : Type} (key : α → NestedKey) (VR : Hp → α → V → Prop) : Prop where
  inj : ∀ a b, key a = key b → a = b
  same : ∀ H H' x v, Same H H' → VR H x v → VR H' x v
  nv : ∀ H x v, VR H x v → MixD.NV H (key x) v
  dep : ∀ x, (key x).depth ≤ 8
  up : ∀ {H H' : Hp} {x : α} {v : V}, TSame H H' → VR H x v → VR H' x v
/-- what exploring is handed -/
structure Xpl (P : Program) (w : World) (K : PySem.W.Frag) (mg : Str → Option Value) (base : Heap) (z : Clo × Clo) (H : Hp) (v0 : V) (ll : Addr) {α : Type} (key : α → NestedKey) (VR : Hp → α → V → Prop) (fol : α → Nat → α) (isEnd : α → Bool) (first : α) (F : List α) (w' : Nat) (ls : List Int) : Prop where
  rep : Rep key VR
  v0 : VR H first v0
  ll : H ll = some (.lst (ls.map V.int))
  len : ls.length = w'
  w2 : 2 ≤ w'
  wm : w' ≤ 1000
  fst : first ∈ F
  cl : ZA.ClosedW w' fol F
  few : F.length ≤ 20
  r1 : z.1.req H
  r2 : z.2.req H
  c1 : CloOk P w K mg base CX0 2 z.1 (spFol VR fol F w' ls)
  c2 : CloOk P w K mg base CX0 2 z.2 (spEnd VR isEnd F)
  c2C : ∀ h H, z.2.C h H
def spExplF (P : Program) (w : World) (K : PySem.W.Frag) (mg : Str → Option Value) (base : Heap) (z : Clo × Clo) : Sp := fun vs H Q _ => ∃ (α : Type) (_ : DecidableEq α) (key : α → NestedKey) (VR : Hp → α → V → Prop) (fol : α → Nat → α) (isEnd : α → Bool) (first : α) (F : List α) (w' : Nat) (ls : List Int) (v0 : V) (ll : Addr),
  vs = [v0, .ref ll, .ref z.1.f, .ref z.2.f] ∧ Xpl P w K mg base z H v0 ll key VR fol isEnd first F w' ls ∧ ∀ v H' met rows, Same H H' → MaT H' v ⟨w', rows, met.map isEnd⟩ → ZA.Expl w' fol first met rows → met.length ≤ 20 → Q v H'
def spExpl (P : Program) (w : World) (K : PySem.W.Frag) (mg : Str → Option Value) (base : Heap) (z : Clo × Clo) : Sp := fun vs H Q _ => ∃ (α : Type) (_ : DecidableEq α) (key : α → NestedKey) (VR : Hp → α → V → Prop) (fol : α → Nat → α) (isEnd : α → Bool) (first : α) (F : List α) (w' : Nat) (ls : List Int) (v0 : V) (ll : Addr),
  vs = [v0, .ref ll, .ref z.1.f, .ref z.2.f] ∧ Xpl P w K mg base z H v0 ll key VR fol isEnd first F w' ls ∧ ∀ v H' M, Same H H' → MaT H' v M → ZA.Least M (fun u => isEnd (ZA.fold w' fol first u)) → M.w = w' → M.n ≤ 20 → Q v H'
section
variable {P : Program} {w : World} {K : PySem.W.Frag} {mg : Str → Option Value} {base : Heap}
theorem sc_digit_sums : FnScope ["factors", "told", "factor", "value"] ["factors"] (defScope s_digit_sums) := ⟨rfl, rfl, rfl, by decide +kernel, rfl, by decide +kernel, by decide +kernel⟩
theorem ok_sums {f : Addr} {fd : FuncData} (F : FnP K "digit_sums" s_digit_sums f fd) (T : Nb mg) : FnOk P w K mg base CX0 1 f fd ["factors"] spSums := by
  refine F.ok sc_digit_sums (fun vs H Q E h => ?_) (fun cdv A outer s H vs Q E hr h => ?_)
  · obtain ⟨a, fs, rfl, _⟩ := h
    rfl
  · obtain ⟨a, fs, rfl, ha, hfl, q⟩ := h
    refine ⟨_, PSs.nox (pss_cons (ps_set (i := 1) sc_digit_sums.nd rfl (Or.inl rfl) (pe_lst (pa_cons pe_int pa_nil)))
      (pss_cons (ps_for PassesOwn.never rfl (pi_anyK (K := K) rfl (pv 0)) (pg_name (i := 2) sc_digit_sums.nd rfl (.inr rfl)) (pss_one (ps_set (i := 1) sc_digit_sums.nd rfl (Or.inl rfl) (pe_op op_cat (pv 1) (pe_lc (own := [("value", 3)]) (g := gName 3) (tt := tYes) rfl sc_digit_sums.nd (pi_anyK (K := K) rfl (pv 1)) (blkOk_by (N := ["factors", "told", "factor", "value"]) (sc := defScope s_digit_sums) (by decide +kernel)) (fun _ _ _ _ _ => (pg_name (i := 3) sc_digit_sums.nd rfl (.inl rfl))) (fun _ _ _ _ _ => pts_nil) (fun _ _ _ _ _ => (pe_op op_add (pv 3) (pv 2))))))))
      (pss_one (ps_ret (pv 1))))), ?_⟩
    refine ⟨sz1, fun l hl => ?_⟩
    have s1 := same_new (o := .lst [.int 0]) (Same.refl H) hl
    refine normG (σ' := [some (.ref a), some (.ref l), none, none]) rfl ?_
    refine any_var rfl (xs := fs.map V.int) (ha.same s1) (fun J wk => ?_)
    refine for_it wk (fun i σ H' => ∃ l v2, σ = [some (.ref a), some (.ref l), v2, none] ∧ H' l = some (.lst ((ZA.dsums (fs.take i)).map V.int)) ∧ Same H H') ⟨_, _, rfl, upd_same, s1⟩ (fun i σ H' _ ⟨_, _, _, _, s⟩ => ha.eqs s s1) ?_ ?_
    · rintro i x σ H2 H3 hi ⟨l, v2, rfl, el, s2⟩ ⟨rfl, ex⟩
      obtain ⟨fc, hf, rfl⟩ := map_at ex
      rw [List.length_map] at hi
      have ld : (ZA.dsums (fs.take i)).length ≤ 16 := by
        rw [ZA.dsums_len, List.length_take]
        exact Nat.le_trans (Nat.pow_le_pow_right (by decide) (Nat.le_trans (Nat.min_le_right i fs.length) hfl)) (by decide : 2 ^ 4 ≤ 16)
      refine normG (σ' := [some (.ref a), some (.ref l), some (.int fc), none]) rfl ?_
      refine ⟨_, rfl, any_var rfl (xs := (ZA.dsums (fs.take i)).map V.int) (.inl el) (fun J2 wk2 => ?_)⟩
      intro D hD
      refine lc_all wk2 hD (by rw [List.length_map]; omega) (fun j y _ => ∀ d, (ZA.dsums (fs.take i))[j]? = some d → y = V.int (d + fc)) (fun _ _ _ _ _ h => h) (fun H8 s8 => by rw [s8 _ _ el, el]) ?_ ?_
      · rintro j x H5 H6 R N zs hj s5 eD ⟨rfl, ex2⟩ k5
        obtain ⟨d, hd, rfl⟩ := map_at ex2
        refine ⟨rfl, yes_to ⟨_, rfl, _, rfl, _, _, rfl, rfl, k5 _ _ (Same.refl _) ?_⟩⟩
        intro d' hd'
        rw [hd] at hd'
        cases hd'
        rfl
      · intro ys H5 ly py s5 eD
        rw [List.length_map] at ly
        rw [list_maps ly py] at eD
        refine ⟨l, D, _, _, rfl, rfl, s5 _ _ el, eD, szM _ (by simp; omega), fun p hp => ?_⟩
        refine ⟨p, _, rfl, ?_, same_new (s2.trans s5) hp⟩
        rw [upd_same, List.take_add_one, hf]
        show _ = some (HO.lst ((ZA.dsums (fs.take i ++ [fc])).map V.int))
        rw [ZA.dsums_snoc, List.map_append, List.map_map]
        rfl
    · rintro σ H2 ⟨l, v2, rfl, el, s2⟩
      rw [List.length_map, List.take_length] at el
      exact ⟨_, rfl, q l H2 s2 el⟩
theorem sc_explored_freely : FnScope ["first", "letters", "follow", "is_end", "place", "met", "rows", "state", "row", "letter", "then"] ["first", "letters", "follow", "is_end"] (defScope s_explored_freely) := ⟨rfl, rfl, rfl, by decide +kernel, rfl, by decide +kernel, by decide +kernel⟩
theorem ok_explF {f : Addr} {fd : FuncData} (F : FnP K "explored_freely" s_explored_freely f fd) (T : Nb mg) (z : Clo × Clo) : FnOkC P w K mg base CX0 3 f fd ["first", "letters", "follow", "is_end"] z.1.C (spExplF P w K mg base z) := by
  refine okC F sc_explored_freely (fun vs H Q E h => ?_) (fun cdv A outer s H vs Q E hr hC h => ?_)
  · obtain ⟨α, dq, key, VR, fol, isEnd, first, X, w', ls, v0, ll, rfl, _⟩ := h
    rfl
  · obtain ⟨α, dq, key, VR, fol, isEnd, first, X, w', ls, v0, ll, rfl, xp, q⟩ := h
    have hu9 := u9 hr
    have cz := xp.c1
    have ce := xp.c2
    have hCe := xp.c2C
    refine ⟨_, PSs.nox (pss_cons (ps_set (i := 4) sc_explored_freely.nd rfl (Or.inl rfl) (MixD.pe_xdispW (w := w) rfl hu9 (pv 0) pe_int))
      (pss_cons (ps_set (i := 5) sc_explored_freely.nd rfl (Or.inl rfl) (pe_lst (pa_cons (pv 0) pa_nil)))
      (pss_cons (ps_set (i := 6) sc_explored_freely.nd rfl (Or.inl rfl) (pe_lst pa_nil))
      (pss_cons (ps_while PassesOwn.never (pt_cmpR op_lt (pe_callB (call_lenA (K := K) rfl) (by rfl) T.len PySem.boot_len (pa_cons (pv 6) pa_nil)) (pe_callB (call_lenA (K := K) rfl) (by rfl) T.len PySem.boot_len (pa_cons (pv 5) pa_nil)) (nomark _)) (pss_cons (ps_set (i := 7) sc_explored_freely.nd rfl (Or.inl rfl) (pe_ix (ix_anyK (K := K) rfl) (pv 5) (pe_callB (call_lenA (K := K) rfl) (by rfl) T.len PySem.boot_len (pa_cons (pv 6) pa_nil)) (fun _ _ => rfl)))
      (pss_cons (ps_set (i := 8) sc_explored_freely.nd rfl (Or.inl rfl) (pe_lst pa_nil))
      (pss_cons (ps_for PassesOwn.never rfl (pi_anyK (K := K) rfl (pv 1)) (pg_name (i := 9) sc_explored_freely.nd rfl (.inl rfl)) (pss_cons (ps_set (i := 10) sc_explored_freely.nd rfl (Or.inl rfl) (pe_callZ (i := 2) (E := E0) cz hC rfl hr (by decide) pass0 rfl (by first | exact Or.inl rfl | exact Or.inr (Or.inl rfl) | exact Or.inr (Or.inr rfl)) (pa_cons (pv 7) (pa_cons (pv 9) pa_nil))))
      (pss_cons (ps_if (pt_cmp (MixD.pc_xnotinW (w := w) rfl hu9 (pv 10) (pv 4))) (pss_cons (MixD.ps_xput hu9 (pv 4) (pv 10) (pe_callB (call_lenA (K := K) rfl) (by rfl) T.len PySem.boot_len (pa_cons (pv 5) pa_nil)) rfl)
      (pss_one (ps_expr (pe_bm PySem.F.plainAttrs_list PySem.F.slot_list_append PySem.F.type_list_append mt_append (pv 5) (pa_cons (pv 10) pa_nil))))) pss_nil)
      (pss_one (ps_expr (pe_bm PySem.F.plainAttrs_list PySem.F.slot_list_append PySem.F.type_list_append mt_append (pv 8) (pa_cons (MixD.pe_xgetW (w := w) rfl hu9 (pv 4) (pv 10) (fun _ _ => rfl)) pa_nil)))))))
      (pss_one (ps_expr (pe_bm PySem.F.plainAttrs_list PySem.F.slot_list_append PySem.F.type_list_append mt_append (pv 6) (pa_cons (pe_callTy (call_tupleZ (K := K) rfl) (by rfl) T.tuple (by decide +kernel) (pa_cons (pv 8) pa_nil)) pa_nil))))))))
      (pss_one (ps_ret (pe_tup (pa_cons (pe_callTy call_tuple_of (by rfl) T.tuple (by decide +kernel) (pa_cons (pv 6) pa_nil)) (pa_cons (pe_callTy call_tuple_of (by rfl) T.tuple (by decide +kernel) (pa_cons (pe_lc (own := [("state", 7)]) (g := gName 7) (tt := tYes) rfl sc_explored_freely.nd (pi_anyK (K := K) rfl (pv 5)) (blkOk_by (N := ["first", "letters", "follow", "is_end", "place", "met", "rows", "state", "row", "letter", "then"]) (sc := defScope s_explored_freely) (by decide +kernel)) (fun _ _ _ _ _ => (pg_name (i := 7) sc_explored_freely.nd rfl (.inl rfl))) (fun _ _ _ _ _ => pts_nil) (fun _ _ _ _ _ => (pe_callZ0 (i := 3) (E := E0) ce hCe hr (by decide) pass0 rfl (by first | exact Or.inl rfl | exact Or.inr (Or.inl rfl) | exact Or.inr (Or.inr rfl)) (pa_cons (pv 7) pa_nil)))) pa_nil)) pa_nil))))))))), ?_⟩
    have rep := xp.rep
    have hR1 : ∀ {H'}, Same H H' → z.1.req H' := fun s' => cz.up _ _ s' xp.r1
    have hR2 : ∀ {H'}, Same H H' → z.2.req H' := fun s' => ce.up _ _ s' xp.r2
    refine fun D hD => ?_
    have s0 : Same H (upd H D (MixD.mixO D [])) := same_new (Same.refl H) hD
    refine ⟨_, rfl, upd_same, key first, rep.nv _ _ _ (rep.same _ _ _ _ s0 xp.v0), rep.dep _, fun es x1 => ?_⟩
    have s1 : Same H (upd (upd H D (MixD.mixO D [])) D (MixD.mixO D es)) := same_upd s0 hD
    obtain ⟨H1, eH1⟩ : ∃ X, X = upd (upd H D (MixD.mixO D [])) D (MixD.mixO D es) := ⟨_, rfl⟩
    rw [← eH1] at x1 s1 ⊢
    refine normG (σ' := [some v0, some (.ref ll), some (.ref z.1.f), some (.ref z.2.f), some (.ref D), none, none, none, none, none, none]) rfl ?_
    refine ⟨_, rfl, sz1, fun E hEn => ?_⟩
    refine normG (σ' := [some v0, some (.ref ll), some (.ref z.1.f), some (.ref z.2.f), some (.ref D), some (.ref E), none, none, none, none, none]) rfl ?_
    refine ⟨Nat.zero_le _, fun G hG => ?_⟩
    refine normG (σ' := [some v0, some (.ref ll), some (.ref z.1.f), some (.ref z.2.f), some (.ref D), some (.ref E), some (.ref G), none, none, none, none]) rfl ?_
    have nGE : G ≠ E := none_ne hG
    obtain ⟨es0, hD1⟩ := xd_obj x1
    have nED : E ≠ D := (ne_of_none hD1 hEn).symm
    have nGD : G ≠ D := (ne_of_none hD1 (none_of hG)).symm
    have hE0 : H E = none := none_back s1 hEn
    have hG0 : H G = none := none_back s1 (none_of hG)
    have sE : Same H1 (upd H1 E (.lst [v0])) := same_new (Same.refl _) hEn
    have sG : Same H1 (upd (upd H1 E (.lst [v0])) G (.lst [])) := same_new sE hG
    have lX := xp.few
    have muR : ∀ (H' : Hp) (xs : List V), H' G = some (.lst xs) → (match H' G with | some (.lst xs) => X.length - xs.length | _ => 0) = X.length - xs.length := fun H' xs e => by rw [e]
    refine while_by (fun σ H' => ∃ (v7 v8 v9 v10 : Option V) (met : List α) (mvs : List V) (told : List (List Nat)) (tvs : List V), σ = [some v0, some (.ref ll), some (.ref z.1.f), some (.ref z.2.f), some (.ref D), some (.ref E), some (.ref G), v7, v8, v9, v10] ∧ MixD.XD w H' D (plG key met) ∧
      H' E = some (.lst mvs) ∧ mvs.length = met.length ∧ (∀ (i : Nat) v x, mvs[i]? = some v → met[i]? = some x → VR H' x v) ∧ H' G = some (.lst tvs) ∧ RwZ H' tvs told ∧ ZA.EPart w' fol first X met told [] ∧ Same H H') (fun _ H' => match H' G with | some (.lst xs) => X.length - xs.length | _ => 0)
      ⟨none, none, none, none, [first], [v0], [], [], rfl, x1.up (fun a vs q => sG _ _ q) ?_, ?_, rfl, fun i v x e1 e2 => ?_, upd_same, .nil, ZA.EPart.start xp.fst, s1.trans sG⟩ ?_ ?_
    · rw [upd_ne nGD.symm, upd_ne nED.symm]
    · rw [upd_ne nGE.symm, upd_same]
    · cases i with
      | zero =>
        cases (Option.some.inj e1)
        cases (Option.some.inj e2)
        exact rep.same _ _ _ _ (s1.trans sG) xp.v0
      | succ i => simp at e1
    · rintro σ H2 ⟨v7, v8, v9, v10, met, mvs, told, tvs, rfl, xD, hE2, lmv, hmv, hG2, hT, pt, s2⟩
      have few := pt.few
      have ltv := hT.len
      have fz := pt.le
      refine ⟨_, rfl, G, _, rfl, .inl (SqL.of hG2), _, rfl, E, _, rfl, .inl (SqL.of hE2), _, _, rfl, rfl, _, rfl, ite2 (fun y => ?_) (fun y => ?_)⟩
      · have y : told.length < met.length := by
          have := of_decide_eq_true y
          omega
        obtain ⟨x, hx⟩ : ∃ x, met[told.length]? = some x := ⟨_, List.getElem?_eq_getElem y⟩
        obtain ⟨xv, hxv⟩ : ∃ xv, mvs[told.length]? = some xv := ⟨_, List.getElem?_eq_getElem (by omega)⟩
        have xX := pt.inF x (List.mem_of_getElem? hx)
        refine ⟨_, rfl, _, rfl, G, _, rfl, .inl (SqL.of hG2), E, _, _, _, rfl, rfl, .inl (SqL.of hE2), by rw [ltv]; exact atN hxv, ?_⟩
        refine normG (σ' := [some v0, some (.ref ll), some (.ref z.1.f), some (.ref z.2.f), some (.ref D), some (.ref E), some (.ref G), some xv, v8, v9, v10]) rfl ?_
        refine ⟨Nat.zero_le _, fun R hR0 => ?_⟩
        refine normG (σ' := [some v0, some (.ref ll), some (.ref z.1.f), some (.ref z.2.f), some (.ref D), some (.ref E), some (.ref G), some xv, some (.ref R), v9, v10]) rfl ?_
        have nER : E ≠ R := ne_of_none hE2 hR0
        have nGR : G ≠ R := ne_of_none hG2 hR0
        obtain ⟨es2, hD2⟩ := xd_obj xD
        have nDR : D ≠ R := ne_of_none hD2 hR0
        have hRH : H R = none := none_back s2 hR0
        have s3 : Same H2 (upd H2 R (.lst [])) := same_new (Same.refl _) hR0
        have hll := (s2.trans s3) _ _ xp.ll
        refine any_var rfl (xs := ls.map V.int) (.inl hll) (fun J wk => ?_)
        refine for_it wk (fun c σ H' => ∃ (v9 v10 : Option V) (met : List α) (mvs : List V) (row : List Nat), σ = [some v0, some (.ref ll), some (.ref z.1.f), some (.ref z.2.f), some (.ref D), some (.ref E), some (.ref G), some xv, some (.ref R), v9, v10] ∧ MixD.XD w H' D (plG key met) ∧
          H' E = some (.lst mvs) ∧ mvs.length = met.length ∧ (∀ (i : Nat) v x, mvs[i]? = some v → met[i]? = some x → VR H' x v) ∧ H' G = some (.lst tvs) ∧ RwZ H' tvs told ∧ H' R = some (.lst (row.map nV)) ∧ row.length = c ∧ ZA.EPart w' fol first X met told row ∧ met[told.length]? = some x ∧ VR H' x xv ∧ Same H H')
          ⟨_, _, met, mvs, [], rfl, xD.up (fun a vs q => s3 _ _ q) (upd_ne nDR), s3 _ _ hE2, lmv, fun i v x e1 e2 => rep.same _ _ _ _ s3 (hmv i v x e1 e2), s3 _ _ hG2, hT.same s3, upd_same, rfl, pt, hx, rep.same _ _ _ _ s3 (hmv _ _ _ hxv hx), s2.trans s3⟩ (fun i σ H' _ ⟨_, _, _, _, _, _, _, _, _, _, _, _, _, _, _, _, _, s4⟩ => by rw [s4 _ _ xp.ll, hll]) ?_ ?_
        · rintro c lv σ H3 H4 hc ⟨v9, v10, met, mvs, row, rfl, xD, hE2, lmv, hmv, hG2, hT, hR2, lr, pt, hx, hxr, s4⟩ ⟨rfl, ex⟩
          obtain ⟨d, hd, rfl⟩ := map_at ex
          rw [List.length_map, xp.len] at hc
          have few := pt.few
          refine normG (σ' := [some v0, some (.ref ll), some (.ref z.1.f), some (.ref z.2.f), some (.ref D), some (.ref E), some (.ref G), some xv, some (.ref R), some (.int d), v10]) rfl ?_
          refine ⟨rfl, hR1 s4, _, rfl, _, rfl, hR1 s4, x, xv, c, d, rfl, hxr, xX, hc, hd, fun tv H5 s5 vt => ?_⟩
          have s45 := s4.trans s5
          have hE2 := s5 _ _ hE2
          have hG2 := s5 _ _ hG2
          have hR2 := s5 _ _ hR2
          have hT := hT.same s5
          have xD := xD.up (fun a vs q => s5 _ _ q) (by obtain ⟨q, e⟩ := xd_obj xD; rw [s5 _ _ e, e])
          have hmv : ∀ (i : Nat) v x, mvs[i]? = some v → met[i]? = some x → VR H5 x v := fun i v x e1 e2 => rep.same _ _ _ _ s5 (hmv i v x e1 e2)
          have hxr := rep.same _ _ _ _ s5 hxr
          obtain ⟨t, et⟩ : ∃ t, t = fol x c := ⟨_, rfl⟩
          rw [← et] at vt
          refine normG (σ' := [some v0, some (.ref ll), some (.ref z.1.f), some (.ref z.2.f), some (.ref D), some (.ref E), some (.ref G), some xv, some (.ref R), some (.int d), some tv]) rfl ?_
          dsimp only
          refine mid (fun σ' H' => ∃ (met2 : List α) (mvs2 : List V) (b : Nat), σ' = [some v0, some (.ref ll), some (.ref z.1.f), some (.ref z.2.f), some (.ref D), some (.ref E), some (.ref G), some xv, some (.ref R), some (.int d), some tv] ∧ MixD.XD w H' D (plG key met2) ∧
            H' E = some (.lst mvs2) ∧ mvs2.length = met2.length ∧ (∀ (i : Nat) v x, mvs2[i]? = some v → met2[i]? = some x → VR H' x v) ∧ H' G = some (.lst tvs) ∧ RwZ H' tvs told ∧ H' R = some (.lst (row.map nV)) ∧ ZA.EPart w' fol first X met2 told (row ++ [b]) ∧ met2[told.length]? = some x ∧ VR H' x xv ∧ VR H' t tv ∧
            MixD.val (plG key met2) (key t) = some (.int (b : Nat)) ∧ Same H H') (fun kk => ?_) ?_
          · refine ⟨_, rfl, _, rfl, D, _, key t, rfl, xD, rep.nv _ _ _ vt, rep.dep _, _, rfl, ite2 (fun y => ?_) (fun y => ?_)⟩
            · have new : t ∉ met := fun h => by
                obtain ⟨i, hi⟩ := List.mem_iff_getElem?.mp h
                rw [plG_val rep.inj pt.nd hi] at y
                cases y
              refine ⟨_, rfl, E, _, rfl, .inl (SqL.of hE2), _, rfl, _, rfl, D, _, key t, rfl, xD, rep.nv _ _ _ vt, rep.dep _, szL _ (by rw [plG_len]; omega), fun es5 x5 => ?_⟩
              rw [lmv, plG_put rep.inj new] at x5
              obtain ⟨es3, hD3⟩ := xd_obj xD
              obtain ⟨H6, eH6⟩ : ∃ X, X = upd H5 D (MixD.mixO D es5) := ⟨_, rfl⟩
              have s6 : Same H H6 := by rw [eH6]; exact same_upd s45 hD
              have f6 : FK H5 H6 := by rw [eH6]; exact fk_updX hD3
              have t6 : TSame H5 H6 := by rw [eH6]; exact ts_updX hD3
              have k6 : ∀ b, b ≠ D → H6 b = H5 b := fun b hb => by rw [eH6, upd_ne hb]
              rw [← eH6] at x5 ⊢
              have hE6 := (k6 E nED).trans hE2
              refine ⟨_, rfl, .inl ⟨rfl, _, SqL.of hE6⟩, _, rfl, E, _, _, rfl, rfl, hE6, szL _ (by omega), ?_⟩
              have k7 : ∀ b, b ≠ E → upd H6 E (.lst (mvs ++ [tv])) b = H6 b := fun b hb => upd_ne hb
              have t7 : TSame H5 (upd H6 E (.lst (mvs ++ [tv]))) := t6.trans (TSame.updL hE6)
              have pn := pt.new xp.cl (by omega) hx (by rw [lr, ← et]; exact new)
              rw [lr, ← et] at pn
              refine kk _ _ ⟨met ++ [t], mvs ++ [tv], met.length, rfl, x5.up (fun a vs q => TSame.updL hE6 a vs q) (k7 D nED.symm), upd_same, by simp [lmv], fun i v x' e1 e2 => ?_, ?_, rwZ_fk (rwZ_fk hT f6) (fk_updL hE6), ?_, pn, ?_, rep.up t7 hxr, rep.up t7 vt, ?_, same_upd s6 hE0⟩
              · rcases Nat.lt_or_ge i met.length with hi | hi
                · rw [List.getElem?_append_left (by omega)] at e1
                  rw [List.getElem?_append_left hi] at e2
                  exact rep.up t7 (hmv i v x' e1 e2)
                · have hi2 : i = met.length := by
                    have := (List.getElem?_eq_some_iff.mp e2).1
                    simp at this
                    omega
                  subst hi2
                  rw [List.getElem?_append_right (by omega), lmv, Nat.sub_self] at e1
                  rw [List.getElem?_append_right (Nat.le_refl _), Nat.sub_self] at e2
                  cases (Option.some.inj e1)
                  cases (Option.some.inj e2)
                  exact rep.up t7 vt
              · rw [k7 G nGE, k6 G nGD]
                exact hG2
              · rw [k7 R nER.symm, k6 R nDR.symm]
                exact hR2
              · rw [List.getElem?_append_left (List.getElem?_eq_some_iff.mp hx).1]
                exact hx
              · exact plG_val rep.inj pn.nd (by rw [List.getElem?_append_right (Nat.le_refl _), Nat.sub_self]; rfl)
            · obtain ⟨i, hi⟩ : ∃ i : Nat, met[i]? = some t := by
                refine List.mem_iff_getElem?.mp (Classical.byContradiction fun no => y ?_)
                rw [MixD.val_none (plG_no rep.inj no)]
                rfl
              exact un_next (kk _ _ ⟨met, mvs, i, rfl, xD, hE2, lmv, hmv, hG2, hT, hR2, pt.old hx (by rw [lr, ← et]; exact hi), hx, hxr, vt, plG_val rep.inj pt.nd hi, s45⟩)
          · rintro σ H6 ⟨met2, mvs2, b, rfl, xD, hE2, lmv, hmv, hG2, hT, hR2, pt2, hx2, hxr2, vt2, hv, s6⟩
            refine ⟨_, rfl, .inl ⟨rfl, _, SqL.of hR2⟩, _, rfl, _, rfl, D, _, key t, _, rfl, xD, rep.nv _ _ _ vt2, rep.dep _, hv, R, _, _, rfl, rfl, hR2, szL _ (by rw [List.length_map]; have := xp.wm; omega), ?_⟩
            have t7 : TSame H6 (upd H6 R (.lst (row.map nV ++ [.int (b : Nat)]))) := TSame.updL hR2
            refine ⟨_, _, met2, mvs2, row ++ [b], rfl, xD.up (fun a vs q => t7 a vs q) (upd_ne nDR), by rw [upd_ne nER]; exact hE2, lmv, fun i v x e1 e2 => rep.up t7 (hmv i v x e1 e2), by rw [upd_ne nGR]; exact hG2, rwZ_fk hT (fk_updL hR2), by rw [upd_same, List.map_append]; rfl, by rw [List.length_append, lr]; rfl, pt2, hx2, rep.up t7 hxr2, same_upd s6 hRH⟩
        · rintro σ H3 ⟨v9, v10, met, mvs, row, rfl, xD, hE2, lmv, hmv, hG2, hT, hR2, lr, pt, hx, hxr, s4⟩
          rw [List.length_map, xp.len] at lr
          have few := pt.few
          have tl := (List.getElem?_eq_some_iff.mp hx).1
          have pt4 := pt.turn hx lr
          refine ⟨_, rfl, .inl ⟨rfl, _, SqL.of hG2⟩, _, rfl, R, _, rfl, SqL.of hR2, fun l o hl od => ?_⟩
          have s5 : Same H3 (upd H3 l (.frz o (.tup (row.map nV)))) := same_new (Same.refl _) hl
          refine ⟨G, _, _, rfl, rfl, s5 _ _ hG2, szL _ (by rw [hT.len]; omega), ?_⟩
          obtain ⟨H4, eH4⟩ : ∃ X, X = upd H3 l (.frz o (.tup (row.map nV))) := ⟨_, rfl⟩
          have hl4 : H4 l = some (.frz o (.tup (row.map nV))) := by rw [eH4, upd_same]
          rw [← eH4] at s5 ⊢
          have hG4 := s5 _ _ hG2
          have t6 : TSame H4 (upd H4 G (.lst (tvs ++ [.ref l]))) := TSame.updL hG4
          refine ⟨⟨_, _, _, _, met, mvs, told ++ [row], tvs ++ [.ref l], rfl, ?_, ?_, lmv, fun i v x e1 e2 => rep.up t6 (rep.same _ _ _ _ s5 (hmv i v x e1 e2)), upd_same, ?_, pt4, same_upd (s4.trans s5) hG0⟩, ?_⟩
          · exact (xD.up (fun a vs q => s5 _ _ q) (by obtain ⟨q, e⟩ := xd_obj xD; rw [s5 _ _ e, e])).up (fun a vs q => t6 a vs q) (upd_ne nGD.symm)
          · rw [upd_ne nGE.symm]
            exact s5 _ _ hE2
          · exact rwZ_fk ((hT.same s5).snoc ⟨o, od, hl4⟩) (fk_updL hG4)
          · rw [muR _ _ upd_same, muR _ _ ‹_›, List.length_append]
            simp
            omega
      · have y : told.length = met.length := by
          have h1 : ¬ ((tvs.length : Int) < (mvs.length : Int)) := fun q => y (decide_eq_true q)
          omega
        have td := pt.done y
        refine ⟨_, rfl, G, _, rfl, .inl ⟨SqL.of hG2, fun l hl => ?_⟩⟩
        have s3 : Same H2 (upd H2 l (.tup tvs)) := same_new (Same.refl _) hl
        obtain ⟨H3, eH3⟩ : ∃ X, X = upd H2 l (.tup tvs) := ⟨_, rfl⟩
        have hl3 : H3 l = some (.tup tvs) := by rw [eH3, upd_same]
        rw [← eH3] at s3 ⊢
        refine any_var rfl (xs := mvs) (.inl (s3 _ _ hE2)) (fun J wk => ?_)
        intro D4 hD4
        refine lc_all wk hD4 (by omega) (fun i y _ => ∀ x, met[i]? = some x → y = V.bl (isEnd x)) (fun _ _ _ _ _ h => h) (fun H8 s8 => by rw [s8 _ _ (s3 _ _ hE2), s3 _ _ hE2]) ?_ ?_
        · rintro j xv H7 H8 R2 N2 zs2 hj s7 eD3 ⟨rfl, ex2⟩ k7
          obtain ⟨x, hx⟩ : ∃ x, met[j]? = some x := ⟨_, List.getElem?_eq_getElem (by omega)⟩
          have vx := rep.same _ _ _ _ (s3.trans s7) (hmv j xv x ex2 hx)
          have sH := (s2.trans s3).trans s7
          refine ⟨rfl, yes_to ⟨rfl, hR2 sH, _, rfl, hR2 sH, x, xv, rfl, vx, pt.inF x (List.mem_of_getElem? hx), k7 _ _ (Same.refl _) ?_⟩⟩
          intro x' hx'
          rw [hx] at hx'
          cases hx'
          rfl
        · intro ys H7 ly7 py7 s7 eD7
          rw [lmv] at ly7
          rw [list_maps ly7 py7] at eD7
          refine ⟨D4, _, rfl, .inl ⟨SqL.of eD7, fun u hu => ⟨sz2, fun v hv => ?_⟩⟩⟩
          have s8 := same_new (o := .tup (met.map fun s => V.bl (isEnd s))) (Same.refl H7) hu
          have s9 := same_new (o := .tup [.ref l, .ref u]) s8 hv
          have nu : u ≠ v := (none_ne hv).symm
          refine q _ _ met told (((s2.trans s3).trans s7).trans s9) ⟨v, l, u, tvs, rfl, upd_same, s9 _ _ (s7 _ _ hl3), (hT.same (s3.trans s7)).same s9, ?_⟩ td (by omega)
          rw [upd_ne nu, upd_same, List.map_map]
          rfl
    · rintro σ H2 Q1 Q2 hq ⟨x, hx, p, ys, e1, e2, x', hx', p', ys', e3, e4, i, j, e5, e6, b, e7, y⟩
      exact ⟨x, hx, p, ys, e1, e2, x', hx', p', ys', e3, e4, i, j, e5, e6, b, e7, hq _ _ y⟩
end
end K01
set_option maxHeartbeats 4000000
namespace K01
open PySem PySem.Spec PyProof.Rows L2 Z
/-- a def that asks a fact of the state, by its name -/
def DnC (P : Program) (w : World) (K : PySem.W.Frag) (mg : Str → Option Value) (base : Heap) (j : Nat) (x : Str) (ps : List Str) (C : Clo × Clo → SF) (sp : Clo × Clo → Sp) : Prop :=
  ∃ (f : Addr) (fd : FuncData), (∀ z, FnOkC P w K mg base CX0 j f fd ps (C z) (sp z)) ∧ mg x = some (.ref f) ∧ PySem.W.keepIn K (.ref f) = true ∧ Binds K fd ps []
theorem fnOkC_mono {P : Program} {w : World} {K : PySem.W.Frag} {mg : Str → Option Value} {base : Heap} {CX : CXT} {j k : Nat} {f : Addr} {fd : FuncData} {ps : List Str} {C : SF} {sp : Sp} (F : FnOkC P w K mg base CX j f fd ps C sp) (h : j ≤ k) : FnOkC P w K mg base CX k f fd ps C sp :=
  ⟨F.len, fun A outer s H args us vs Q E hr => F.go A outer s H args us vs Q E (hr.mono h)⟩
section
variable {X : Cx} {e : Expr} {es : List Expr} {t : TA} {p pos : Pos}
theorem pe_dnC {k j : Nat} {x : Str} {ps : List Str} {C : Clo × Clo → SF} {sp : Clo × Clo → Sp} {Good : Clo × Clo → L2.St → Prop} (D : DnC X.prog X.w X.K X.mg X.base j x ps C sp) (hC : ∀ pins σ H s z, Inv X pins σ H s → Good z σ → C z s.heap H) (hr : Room k X.A) (ha : PA X (e :: es) t) (hjk : j ≤ k := by decide) (hg : Gl X x := by rfl)
    (hdb : (x == ("__debug__" : Str)) = false := by decide) (he : starEach (e :: es) X.env = (false, eval e X.env) :: starEach es X.env := by rfl) (hpl : (backTo pos (starEach es X.env)).any (·.1) = false := by rfl) :
    PE X (.Call (.Name x p) (e :: es) [] pos) (tCallC sp Good E0 t) := by
  obtain ⟨f, fd, G, hm, hk, hb⟩ := D
  exact pe_callC (fun z => fnOkC_mono (G z) hjk) hC hr hg hm hk hb pass0 ha hdb he hpl
end
section
variable {P : Program} {w : World} {K : PySem.W.Frag} {mg : Str → Option Value} {base : Heap}
theorem sc_explored : FnScope ["first", "letters", "follow", "is_end", "rows", "ends"] ["first", "letters", "follow", "is_end"] (defScope s_explored) := ⟨rfl, rfl, rfl, by decide +kernel, rfl, by decide +kernel, by decide +kernel⟩
theorem ok_expl {f : Addr} {fd : FuncData} (F : FnP K "explored" s_explored f fd) (T : Nb mg) (dExplF : DnC P w K mg base 3 "explored_freely" ["first", "letters", "follow", "is_end"] (fun z => z.1.C) (spExplF P w K mg base)) (dMinimal : Dn P w K mg base 3 "minimal" ["rows", "ends"] spMinimal) (z : Clo × Clo) :
    FnOkC P w K mg base CX0 4 f fd ["first", "letters", "follow", "is_end"] z.1.C (spExpl P w K mg base z) := by
  refine okC F sc_explored (fun vs H Q E h => ?_) (fun cdv A outer s H vs Q E hr hC h => ?_)
  · obtain ⟨α, dq, key, VR, fol, isEnd, first, X, w', ls, v0, ll, rfl, _⟩ := h
    rfl
  · obtain ⟨α, dq, key, VR, fol, isEnd, first, X, w', ls, v0, ll, rfl, xp, q⟩ := h
    have hCx : ∀ pins σ H1 s1 z', Inv (cxOf CX0 P w K mg base ["first", "letters", "follow", "is_end", "rows", "ends"] "explored" (defScope s_explored) f cdv A outer s H E).nox pins σ H1 s1 → z' = z → z'.1.C s1.heap H1 := fun pins σ H1 s1 z' I e => by
      subst e
      exact xp.c1.st _ _ _ _ _ I.base hC
    refine ⟨_, PSs.nox (pss_cons (ps_asg (pe_dnC (Good := fun z' _ => z' = z) dExplF hCx hr (pa_cons (pv 0) (pa_cons (pv 1) (pa_cons (pv 2) (pa_cons (pv 3) pa_nil))))) (pg_tup (by rfl) (pgs_cons (pg_name (i := 4) sc_explored.nd rfl (.inl rfl)) (pgs_cons (pg_name (i := 5) sc_explored.nd rfl (.inl rfl)) pgs_nil))))
      (pss_one (ps_ret (pe_dn dMinimal hr (pa_cons (pv 4) (pa_cons (pv 5) pa_nil)))))), ?_⟩
    refine ⟨_, rfl, _, rfl, _, rfl, _, rfl, z, rfl, α, dq, key, VR, fol, isEnd, first, X, w', ls, v0, ll, rfl, xp, fun v H1 met rows s1 hv ex lm => ?_⟩
    have okA := ex.ok (isEnd := isEnd) (Nat.le_trans (by decide) xp.w2)
    obtain ⟨m, r, e, vs, rfl, hm, hr', hz, he⟩ := hv
    refine ⟨m, _, rfl, SqT.of hm, rfl, _, _, rfl, _, _, rfl, rfl, ?_⟩
    refine norm (N := fun σ _ => _) (σ' := [some v0, some (.ref ll), some (.ref z.1.f), some (.ref z.2.f), some (.ref r), some (.ref e)]) rfl ?_
    have n0 : 0 < rows.length := by
      rw [ex.len]
      exact (List.getElem?_eq_some_iff.mp ex.zero).1
    have n20 : rows.length ≤ 20 := by rw [ex.len]; exact lm
    refine ⟨_, rfl, _, rfl, r, e, ⟨w', rows, met.map isEnd⟩, rfl, ⟨vs, .inr (.inl hr'), hz.rw⟩, .inr (.inl he), okA, n0, Nat.le_trans n20 (by decide), xp.wm, fun v H2 M mt s2 hv td => q v H2 M (s1.trans s2) hv ⟨_, mt, okA, n0, td, fun u => ?_⟩ (td.wd) (Nat.le_trans td.few n20)⟩
    exact ex.lang (Nat.le_trans (by decide) xp.w2) u 0 first ex.zero
end
end K01
set_option maxHeartbeats 4000000
namespace K01
open PySem PySem.Spec PyProof.Rows L2 Z
theorem sq_ext {H H' : Hp} {a : Addr} {xs : List V} (h : Sq H a xs) (e : LamX.ExtN H H') : Sq H' a xs := h.imp (fun q => e _ _ q fun _ z => by cases z) fun h => h.imp (fun q => e _ _ q fun _ z => by cases z) fun ⟨o, d, q⟩ => ⟨o, d, e _ _ q fun _ z => by cases z⟩
theorem int_rep : Rep NestedKey.num (fun _ (x : Int) v => v = .int x) where
  inj := numk_inj
  same := fun _ _ _ _ _ h => h
  nv := fun _ x v h => by rw [h]; exact .int _
  dep := fun _ => dep_num
  up := fun _ h => h
structure MkN (base : Heap) (mg : Str → Option Value) (TS : List NdefX.NTab) (nm : Nat → Nat → Str) (c T : Addr) : Prop where
  tb : LamX.TabB base mg c T
  mem : (T, nm) ∈ TS
  uni : ∀ p ∈ TS, p.1 = T → p.2 = nm
section
variable {P : Program} {w : World} {K : PySem.W.Frag} {mg : Str → Option Value} {base : Heap}
theorem okCode {x : Str} {st : Stmt} {f c : Addr} {fd : FuncData} {CX : CXT} {N ps : List Str} {k : Nat} {sp : Sp} (F : FnP K x st f fd) (hc : fd.code = .ref c) (S : FnScope N ps (defScope st)) (len : ∀ vs H Q E, sp vs H Q E → vs.length = ps.length)
    (go : ∀ (A : Around) (outer : List Env) (s : Shared) (H : Hp) (vs : List V) (Q : VK) (E : XK), Room k (A.deeper (envOfC x (defScope st) s.heap.objs.size f (.ref c))) → sp vs H Q E → ∃ t, PSs (cxOf CX P w K mg base N x (defScope st) f (.ref c) A outer s H E) (defBody st) t ∧ t { nx := fun _ H' => Q .non H', rt := Q } (L2.start N vs) H) :
    FnOk P w K mg base CX (k + 1) f fd ps sp := by
  obtain ⟨oc, od, dV, kV, doc, pm, an, cdv, ct, osl, e, lk, hcd, _⟩ := F.ex
  subst e
  obtain rfl : cdv = .ref c := hc
  exact fn_of lk hcd S len go
end
def nm_least_machine (l _c : Nat) : Str := if l = 183 then "least_machine.<locals>.follow" else "least_machine.<locals>.<lambda>"
def nst_least : Stmt := (defBody s_least_machine).getD 2 (.Pass ⟨0, 0, 0, 0⟩)
abbrev nscope_least : Scope := C8.fnScope nst_least
theorem nsc_least : NdefX.NScope ["wanted", "digits", "low", "high", "then"] ["wanted", "digits"] ["low", "high"] nscope_least := NdefX.nscope_by (by decide +kernel)
def lfn (low high x d : Int) : Int := if high = 0 ∧ 0 < -((d - x).fdiv 2) then 1 else if low = 0 ∧ -((d - x).fdiv 2) ≤ 0 then 0 else -((d - x).fdiv 2)
def spLF (ws : List (Option V)) : Sp := fun vs H Q _ => ∃ low high x d : Int, ws = [some (.int low), some (.int high)] ∧ vs = [.int x, .int d] ∧ Q (.int (lfn low high x d)) H
section
variable {P : Program} {w : World} {K : PySem.W.Frag} {mg : Str → Option Value} {base : Heap}
theorem nok_least (f c : Addr) (q : Str) (cl : List (Str × Addr)) : NdefX.NOk P w K mg base CX0 1 f ⟨"follow", q, C8.fnArgs nst_least, C8.fnBody nst_least, nscope_least, cl, c⟩ ["wanted", "digits"] ["low", "high"] spLF := by
  refine NdefX.nok_of (N := ["wanted", "digits", "low", "high", "then"]) nsc_least (fun doc pm ctv us h => ?_) (fun ws vs H Q E h => ?_) (fun A outer s H vs ws Q E hr hf hc lw h => ?_)
  · match us, h with
    | [a, b], _ => rfl
  · obtain ⟨low, high, x, d, _, rfl, _⟩ := h
    rfl
  · obtain ⟨low, high, x, d, rfl, rfl, k⟩ := h
    refine ⟨_, PSs.nox (pss_cons (ps_set (i := 4) nsc_least.nd rfl (Or.inl rfl) (pe_un un_neg (pe_op op_fdivN (pe_op op_sub (pv 1) (pv 0)) pe_int)))
      (pss_cons (ps_if (PW.pt (pw_and (pt_cmpR op_eq (pv 3) pe_int (nomark _)) (pw_and1 (pt_cmpR op_gt (pv 4) pe_int (nomark _))))) (pss_one (ps_ret pe_int)) pss_nil)
      (pss_cons (ps_if (PW.pt (pw_and (pt_cmpR op_eq (pv 2) pe_int (nomark _)) (pw_and1 (pt_cmpR op_le (pv 4) pe_int (nomark _))))) (pss_one (ps_ret pe_int)) pss_nil)
      (pss_one (ps_ret (pv 4)))))), ?_⟩
    obtain ⟨y, ey⟩ : ∃ y, y = -((d - x).fdiv 2) := ⟨_, rfl⟩
    have el : lfn low high x d = if high = 0 ∧ 0 < y then 1 else if low = 0 ∧ y ≤ 0 then 0 else y := by rw [ey]; rfl
    rw [el] at k
    refine ⟨_, rfl, _, rfl, _, _, rfl, rfl, _, _, rfl, rfl, ⟨by decide, by decide⟩, _, rfl, ?_⟩
    refine normG (σ' := [some (.int x), some (.int d), some (.int low), some (.int high), some (.int y)]) (by rw [ey]; rfl) ?_
    have tail : (¬ (high = 0 ∧ 0 < y)) → (tSeq (tIfS (tAnd (tTest (tOp rEq (tVar 2) (tC (V.int 0)))) (tTest (tOp (rI0 fun i j => V.bl (decide (i ≤ j))) (tVar 4) (tC (V.int 0))))) (tRet (tC (V.int 0))) tNext) (tRet (tVar 4))) { nx := fun _ H' => Q .non H', rt := Q } [some (.int x), some (.int d), some (.int low), some (.int high), some (.int y)] H := fun no => by
      rw [if_neg no] at k
      refine ⟨_, rfl, rfl, _, rfl, ite2 (fun z => ?_) (fun z => ?_)⟩
      · have z : low = 0 := by
          have := of_decide_eq_true z
          injection this
        refine ⟨_, rfl, _, _, rfl, rfl, _, rfl, ite2 (fun z2 => ?_) (fun z2 => ?_)⟩
        · rw [if_pos ⟨z, of_decide_eq_true z2⟩] at k
          exact k
        · rw [if_neg fun h => z2 (decide_eq_true h.2)] at k
          exact un_next ⟨_, rfl, k⟩
      · rw [if_neg fun h => z (decide_eq_true (by rw [h.1]))] at k
        exact if_no rfl (un_next ⟨_, rfl, k⟩)
    refine ⟨_, rfl, rfl, _, rfl, ite2 (fun z => ?_) (fun z => ?_)⟩
    · have z : high = 0 := by
        have := of_decide_eq_true z
        injection this
      refine ⟨_, rfl, _, _, rfl, rfl, _, rfl, ite2 (fun z2 => ?_) (fun z2 => ?_)⟩
      · rw [if_pos ⟨z, of_decide_eq_true z2⟩] at k
        exact k
      · exact un_next (tail fun h => z2 (decide_eq_true h.2))
    · exact if_no rfl (un_next (tail fun h => z (decide_eq_true (by rw [h.1]))))
def bLeastE : Expr := match (defBody s_least_machine).getD 3 (.Pass ⟨0, 0, 0, 0⟩) with
  | .Return (some (.Call _ [_, _, _, .Lambda _ b _ _] _ _)) _ => b
  | _ => .Constant .none 0 ⟨0, 0, 0, 0⟩
def aLeastE : Arguments := match (defBody s_least_machine).getD 3 (.Pass ⟨0, 0, 0, 0⟩) with
  | .Return (some (.Call _ [_, _, _, .Lambda a _ _ _] _ _)) _ => a
  | _ => ⟨[], [], none, [], [], none, []⟩
def nscope_leastE : Scope := match (defBody s_least_machine).getD 3 (.Pass ⟨0, 0, 0, 0⟩) with
  | .Return (some (.Call _ [_, _, _, .Lambda _ _ s _] _ _)) _ => s
  | _ => ⟨.function, [], false, false, []⟩
theorem nsc_leastE : NdefX.NScope ["wanted"] ["wanted"] [] nscope_leastE := NdefX.nscope_by (by decide +kernel)
def spLE : List (Option V) → Sp := fun _ vs H Q _ => ∃ x : Int, vs = [.int x] ∧ Q (.bl (decide (x ≤ 0))) H
theorem clo_leastE (f c : Addr) (q : Str) : CloOk P w K mg base CX0 1 (cloL f ⟨"<lambda>", q, aLeastE, [], nscope_leastE, [], c⟩ bLeastE [] []) (spLE []) := by
  refine clo_l (N := ["wanted"]) (ps := ["wanted"]) (fr := []) (sp := spLE) (ws := []) nsc_leastE (fun pm ctv us h => ?_) (fun ws vs H Q E h => ?_) (fun A outer s H vs Q E hr h => ?_)
  · match us, h with
    | [a], _ => rfl
  · obtain ⟨x, rfl, _⟩ := h
    rfl
  · obtain ⟨x, rfl, k⟩ := h
    exact ⟨_, (pe_cmpR op_le (pv 0) pe_int (nomark _)), _, rfl, _, _, rfl, rfl, k⟩
/-- the sum of the factors of one sign -/
theorem filt_low : ∀ fs : List Int, (fs.filter fun f => decide (f < 0)).sum = ZA.lowS fs
  | [] => rfl
  | f :: fs => by
    have ih := filt_low fs
    show _ = (if f < 0 then f else 0) + ZA.lowS fs
    by_cases h : f < 0
    · rw [List.filter_cons_of_pos (by simpa using h), List.sum_cons, ih, if_pos h]
    · rw [List.filter_cons_of_neg (by simpa using h), ih, if_neg h, Int.zero_add]
theorem filt_high : ∀ fs : List Int, (fs.filter fun f => decide (0 < f)).sum = ZA.highS fs
  | [] => rfl
  | f :: fs => by
    have ih := filt_high fs
    show _ = (if 0 < f then f else 0) + ZA.highS fs
    by_cases h : 0 < f
    · rw [List.filter_cons_of_pos (by simpa using h), List.sum_cons, ih, if_pos h]
    · rw [List.filter_cons_of_neg (by simpa using h), ih, if_neg h, Int.zero_add]
def spLeastM (TS : List NdefX.NTab) : Sp := fun vs H Q _ => ∃ (fa : Addr) (fs : List Int) (x0 : Int), vs = [.ref fa, .int x0] ∧ Sq H fa (fs.map V.int) ∧ 1 ≤ fs.length ∧ fs.length ≤ 4 ∧ -10 ≤ x0 ∧ x0 ≤ 10 ∧ ZA.highS fs - ZA.lowS fs ≤ 9 ∧ NdefX.TabsN TS H ∧
  ∀ v H' M, LamX.ExtN H H' → NdefX.TabsN TS H' → MaT H' v M → ZA.Least M (fun u => decide (x0 ≤ ZA.total (2 ^ fs.length) fs u)) → M.w = 2 ^ fs.length → M.n ≤ 20 → Q v H'
theorem sc_least_machine : FnScope ["factors", "number", "low", "factor", "high", "follow"] ["factors", "number"] (defScope s_least_machine) := ⟨rfl, rfl, rfl, by decide +kernel, rfl, by decide +kernel, by decide +kernel⟩
theorem ok_leastM {f c TT : Addr} {fd : FuncData} {TS : List NdefX.NTab} (F : FnP K "least_machine" s_least_machine f fd) (hcode : fd.code = .ref c) (Mk : MkN base mg TS nm_least_machine c TT) (T : Nb mg) (dSums : Dn P w K mg base 1 "digit_sums" ["factors"] spSums) (dExpl : DnC P w K mg base 4 "explored" ["first", "letters", "follow", "is_end"] (fun z => z.1.C) (spExpl P w K mg base)) :
    FnOk P w K mg base CX0 5 f fd ["factors", "number"] (spLeastM TS) := by
  refine okCode F hcode sc_least_machine (fun vs H Q E h => ?_) (fun A outer s H vs Q E hr h => ?_)
  · obtain ⟨fa, fs, x0, rfl, _⟩ := h
    rfl
  · obtain ⟨fa, fs, x0, rfl, hf, l1, l4, hx1, hx2, hsp, tabs, k⟩ := h
    have TB := Mk.tb
    have hmT := Mk.mem
    have hmu := Mk.uni
    obtain ⟨mk, emk⟩ : ∃ mk : Addr → NdefX.NF, mk = fun c' => ⟨"follow", "least_machine.<locals>.follow", C8.fnArgs nst_least, C8.fnBody nst_least, nscope_least, cloFrom (envOfC "least_machine" (defScope s_least_machine) s.heap.objs.size f (.ref c)).cells nscope_least.names [], c'⟩ := ⟨_, rfl⟩
    obtain ⟨Good, eG⟩ : ∃ Good : Clo × Clo → L2.St → Prop, Good = fun z σ => ∃ f' c', z.1 = cloN f' (mk c') ["low", "high"] ([2, 4].map (NdefX.slotAt σ)) := ⟨_, rfl⟩
    have hCx : ∀ pins σ H1 s1 z, Inv (cxOf CX0 P w K mg base ["factors", "number", "low", "factor", "high", "follow"] "least_machine" (defScope s_least_machine) f (.ref c) A outer s H E).nox pins σ H1 s1 → Good z σ → z.1.C s1.heap H1 := fun pins σ H1 s1 z I g => by
      rw [eG] at g
      obtain ⟨f', c', e⟩ := g
      rw [e, emk]
      exact NdefX.cells_of I (NdefX.Caps.made I.ok (NdefX.ndef_free (sc := defScope s_least_machine) (nsc := nscope_least) (fr := ["low", "high"]) (by decide +kernel)) (NdefX.ndef_fr (sc := defScope s_least_machine) (nsc := nscope_least) (by decide +kernel)) rfl)
    refine ⟨_, PSs.nox (pss_cons (ps_set (i := 2) sc_least_machine.nd rfl (Or.inr rfl) (pe_un un_neg (pe_callB (cr_sum rfl) (by rfl) T.sum (by decide +kernel) (pa_cons (pe_lc (own := [("factor", 3)]) (g := gName 3) rfl sc_least_machine.nd (pi_anyK (K := K) rfl (pv 0)) (blkOk_by (N := ["factors", "number", "low", "factor", "high", "follow"]) (sc := defScope s_least_machine) (by decide +kernel)) (fun _ _ _ _ _ => (pg_name (i := 3) sc_least_machine.nd rfl (.inl rfl))) (fun _ _ _ _ _ => (pts_one (pt_cmpR op_lt (pv 3) pe_int (nomark _)))) (fun _ _ _ _ _ => (pv 3))) pa_nil))))
      (pss_cons (ps_set (i := 4) sc_least_machine.nd rfl (Or.inr rfl) (pe_callB (cr_sum rfl) (by rfl) T.sum (by decide +kernel) (pa_cons (pe_lc (own := [("factor", 3)]) (g := gName 3) rfl sc_least_machine.nd (pi_anyK (K := K) rfl (pv 0)) (blkOk_by (N := ["factors", "number", "low", "factor", "high", "follow"]) (sc := defScope s_least_machine) (by decide +kernel)) (fun _ _ _ _ _ => (pg_name (i := 3) sc_least_machine.nd rfl (.inl rfl))) (fun _ _ _ _ _ => (pts_one (pt_cmpR op_gt (pv 3) pe_int (nomark _)))) (fun _ _ _ _ _ => (pv 3))) pa_nil)))
      (pss_cons (NdefX.ps_ndefM (T := TS) (nm := nm_least_machine) (i := 5) TB rfl hmT (by rfl) hmu (NdefX.ndef_free (sc := defScope s_least_machine) (nsc := C8.fnScope (nst_least)) (fr := ["low", "high"]) (by decide +kernel)) rfl rfl rfl sc_least_machine.nd rfl (.inl rfl) (.inl rfl))
      (pss_one (ps_ret (pe_dnC (Good := Good) dExpl hCx hr (pa_cons (pv 1) (pa_cons (pe_dn dSums hr (pa_cons (pv 0) pa_nil)) (pa_cons (pv 5) (pa_cons (pe_lamE (T := TS) (nm := nm_least_machine) TB rfl hmT (by rfl) hmu rfl (NdefX.ndef_free (sc := defScope s_least_machine) (nsc := nscope_leastE) (fr := []) (by decide +kernel))) pa_nil)))))))))), ?_⟩
    refine any_var rfl (xs := fs.map V.int) hf (fun J1 wk1 => ?_)
    intro D1 hD1
    refine lc_it wk1 (fun i Hc => Hc D1 = some (.lst (((fs.take i).filter fun f => decide (f < 0)).map V.int)) ∧ Same H Hc) ⟨upd_same, same_new (Same.refl _) hD1⟩ (fun i Hc _ ⟨_, s⟩ => hf.eqs s (Same.refl _)) ?_ ?_
    · rintro i x Hc Hc' hi ⟨eD, sc⟩ ⟨rfl, ex⟩
      obtain ⟨y, hy, rfl⟩ := map_at ex
      have step : (fs.take (i + 1)).filter (fun f => decide (f < 0)) = (fs.take i).filter (fun f => decide (f < 0)) ++ if y < 0 then [y] else [] := by
        rw [List.take_add_one, hy, List.filter_append]
        congr 1
        by_cases z : y < 0 <;> simp [z]
      refine ⟨rfl, _, rfl, _, _, rfl, rfl, _, rfl, ite2 (fun z => ?_) (fun z => ?_)⟩
      · have z : y < 0 := of_decide_eq_true z
        refine ⟨_, rfl, _, eD, szL _ ?_, ?_, same_upd sc hD1⟩
        · rw [List.length_map]
          have := List.length_filter_le (fun f => decide (f < 0)) (fs.take i)
          rw [List.length_take] at this
          omega
        · rw [upd_same, step, if_pos z, List.map_append]
          rfl
      · have z : ¬ y < 0 := fun h => z (decide_eq_true h)
        rw [step, if_neg z, List.append_nil]
        exact ⟨eD, sc⟩
    · rintro H1 ⟨eD1, s1⟩
      rw [List.length_map, List.take_length] at eD1
      refine ⟨D1, _, rfl, SqL.of eD1, _, rfl, ?_⟩
      rw [filt_low]
      refine normG (σ' := [some (.ref fa), some (.int x0), some (.int (-ZA.lowS fs)), none, none, none]) rfl ?_
      refine any_var rfl (xs := fs.map V.int) (hf.same s1) (fun J2 wk2 => ?_)
      intro D2 hD2
      refine lc_it wk2 (fun i Hc => Hc D2 = some (.lst (((fs.take i).filter fun f => decide (0 < f)).map V.int)) ∧ Same H1 Hc) ⟨upd_same, same_new (Same.refl _) hD2⟩ (fun i Hc _ ⟨_, s⟩ => hf.eqs (s1.trans s) s1) ?_ ?_
      · rintro i x Hc Hc' hi ⟨eD, sc⟩ ⟨rfl, ex⟩
        obtain ⟨y, hy, rfl⟩ := map_at ex
        have step : (fs.take (i + 1)).filter (fun f => decide (0 < f)) = (fs.take i).filter (fun f => decide (0 < f)) ++ if 0 < y then [y] else [] := by
          rw [List.take_add_one, hy, List.filter_append]
          congr 1
          by_cases z : 0 < y <;> simp [z]
        refine ⟨rfl, _, rfl, _, _, rfl, rfl, _, rfl, ite2 (fun z => ?_) (fun z => ?_)⟩
        · have z : 0 < y := of_decide_eq_true z
          refine ⟨_, rfl, _, eD, szL _ ?_, ?_, same_upd sc hD2⟩
          · rw [List.length_map]
            have := List.length_filter_le (fun f => decide (0 < f)) (fs.take i)
            rw [List.length_take] at this
            omega
          · rw [upd_same, step, if_pos z, List.map_append]
            rfl
        · have z : ¬ 0 < y := fun h => z (decide_eq_true h)
          rw [step, if_neg z, List.append_nil]
          exact ⟨eD, sc⟩
      · rintro H2 ⟨eD2, s2⟩
        rw [List.length_map, List.take_length] at eD2
        refine ⟨D2, _, rfl, SqL.of eD2, ?_⟩
        rw [filt_high]
        have s12 := s1.trans s2
        refine normG (σ' := [some (.ref fa), some (.int x0), some (.int (-ZA.lowS fs)), none, some (.int (ZA.highS fs)), none]) rfl ?_
        refine ⟨tabs.ext s12, fun f1 c1 H3 e3 nn3 tabs3 n1 hf1 hc1 => ?_⟩
        refine norm (N := fun σ _ => _) (σ' := [some (.ref fa), some (.int x0), some (.int (-ZA.lowS fs)), none, some (.int (ZA.highS fs)), some (.ref f1)]) rfl ?_
        refine ⟨_, rfl, _, rfl, fa, fs, rfl, sq_ext (hf.same s12) e3, l4, fun ll H4 s4 hll => ⟨_, rfl, tabs3.ext s4, fun f2 c2 H5 e5 tabs5 n2 hf2 hc2 => ?_⟩⟩
        obtain ⟨X, hX0, hXc, hXl⟩ := ZA.least_few (fs := fs) ⟨hx1, hx2⟩ hsp
        have w2 : 2 ≤ 2 ^ fs.length := Nat.le_trans (by decide : 2 ≤ 2 ^ 1) (Nat.pow_le_pow_right (by decide) l1)
        have wm : 2 ^ fs.length ≤ 1000 := Nat.le_trans (Nat.pow_le_pow_right (by decide) l4) (by decide : 2 ^ 4 ≤ 1000)
        refine ⟨(cloN f1 (mk c1) ["low", "high"] [some (.int (-ZA.lowS fs)), some (.int (ZA.highS fs))], cloL f2 ⟨"<lambda>", "least_machine.<locals>.<lambda>", aLeastE, [], nscope_leastE, [], c2⟩ bLeastE [] []), by rw [eG]; exact ⟨f1, c1, rfl⟩, Int, inferInstance, .num, fun _ x v => v = .int x, ZA.leastF fs, fun x => decide (x ≤ 0), x0, X, 2 ^ fs.length, ZA.dsums fs, .int x0, ll, rfl, ?_, fun v H' M s' hv lst hw hn => ?_⟩
        · have e35 : LamX.ExtN H3 H5 := (LamX.ExtN.of s4).trans e5
          refine ⟨int_rep, rfl, e5 _ _ hll (fun _ z => by cases z), ZA.dsums_len fs, w2, wm, hX0, hXc.w, hXl, ⟨by rw [emk]; exact e35 _ _ hf1 (NdefX.fnO_ne (F := _)), by rw [emk]; exact e35 _ _ hc1 LamX.codeO_ne⟩, ⟨hf2, hc2⟩, ?_, ?_, fun h H => cells_nil⟩
          · rw [emk]
            refine ((clo_n (nok_least f1 c1 _ _)).mono (by decide)).imp ?_
            rintro vs H Q E ⟨x, v, cc, d, rfl, rfl, hx, hc, hd, kk⟩
            refine ⟨_, _, x, d, rfl, rfl, ?_⟩
            refine kk _ _ (Same.refl _) ?_
            have hd2 : d = ZA.dsum fs cc := by
              have := ZA.dsums_at fs cc hc
              rw [this] at hd
              exact (Option.some.inj hd).symm
            show V.int (lfn _ _ _ _) = V.int (ZA.leastF fs x cc)
            unfold lfn ZA.leastF
            rw [hd2]
            simp only [Int.neg_eq_zero]
          · refine ((clo_leastE f2 c2 _).mono (by decide)).imp ?_
            rintro vs H Q E ⟨x, v, rfl, rfl, hx, kk⟩
            exact ⟨x, rfl, kk⟩
        · refine k v H' M (((LamX.ExtN.of s12).trans e3).trans (((LamX.ExtN.of s4).trans e5).trans (LamX.ExtN.of s'))) (tabs5.ext s') hv (lst.congr fun u => ZA.least_reads u x0) hw hn
end
end K01
set_option maxHeartbeats 4000000
namespace K01
open PySem PySem.Spec PyProof.Rows L2 Z
def optK : Option (Int × Int) → NestedKey
  | none => .none
  | some (a, b) => .tup [.num a, .num b]
def optR (H : Hp) (x : Option (Int × Int)) (v : V) : Prop := match x with
  | none => v = .non
  | some (a, b) => ∃ t, v = .ref t ∧ H t = some (.tup [.int a, .int b])
theorem opt_rep : Rep optK optR where
  inj := fun a b h => by
    match a, b, h with
    | none, none, _ => rfl
    | some (a1, a2), some (b1, b2), h =>
      injection h with h
      injection h with h1 h
      injection h with h2 _
      injection h1 with h1
      injection h2 with h2
      rw [h1, h2]
  same := fun H H' x v s h => by
    match x, h with
    | none, h => exact h
    | some (a, b), ⟨t, e, ht⟩ => exact ⟨t, e, s _ _ ht⟩
  nv := fun H x v h => by
    match x, h with
    | none, h => rw [show v = .non from h]; exact .non
    | some (a, b), ⟨t, e, ht⟩ => rw [e]; exact .tup ht (.cons (.int _) (.cons (.int _) .nil))
  dep := fun x => by
    match x with
    | none => exact Nat.zero_le _
    | some (a, b) => show max 0 (max 0 0) + 1 ≤ 8; decide
  up := fun {H H' x v} s h => by
    match x, h with
    | none, h => exact h
    | some (a, b), ⟨t, e, ht⟩ => exact ⟨t, e, s _ _ ht⟩
def nm_between_machine (l _c : Nat) : Str := if l = 165 then "between_machine.<locals>.follow" else "between_machine.<locals>.is_end"
def nst_betw : Stmt := (defBody s_between_machine).getD 2 (.Pass ⟨0, 0, 0, 0⟩)
abbrev nscope_betw : Scope := C8.fnScope nst_betw
theorem nsc_betw : NdefX.NScope ["wanted", "digits", "low", "high", "bottom", "top"] ["wanted", "digits"] ["low", "high"] nscope_betw := NdefX.nscope_by (by decide +kernel)
def nst_betwE : Stmt := (defBody s_between_machine).getD 3 (.Pass ⟨0, 0, 0, 0⟩)
abbrev nscope_betwE : Scope := C8.fnScope nst_betwE
theorem nsc_betwE : FnScope ["wanted"] ["wanted"] nscope_betwE := ⟨rfl, rfl, rfl, by decide +kernel, rfl, by decide +kernel, by decide +kernel⟩
def bfn (low high : Int) (x : Option (Int × Int)) (d : Int) : Option (Int × Int) := match x with
  | none => none
  | some (a, b) =>
    let p := -((d - a).fdiv 2)
    let q := (b - d).fdiv 2
    let p := if low = 0 then max p 0 else p
    let q := if high = 0 then min q 0 else q
    if p ≤ q then some (p, q) else none
def spBF (ws : List (Option V)) : Sp := fun vs H Q _ => ∃ (low high d : Int) (x : Option (Int × Int)) (v : V), ws = [some (.int low), some (.int high)] ∧ vs = [v, .int d] ∧ optR H x v ∧ ∀ v' H', Same H H' → optR H' (bfn low high x d) v' → Q v' H'
def spBE : Sp := fun vs H Q _ => ∃ (x : Option (Int × Int)) (v : V), vs = [v] ∧ optR H x v ∧ Q (.bl (ZA.inside x 0)) H
section
variable {P : Program} {w : World} {K : PySem.W.Frag} {mg : Str → Option Value} {base : Heap}
theorem nok_betw (T : Nb mg) (f c : Addr) (q : Str) (cl : List (Str × Addr)) : NdefX.NOk P w K mg base CX0 1 f ⟨"follow", q, C8.fnArgs nst_betw, C8.fnBody nst_betw, nscope_betw, cl, c⟩ ["wanted", "digits"] ["low", "high"] spBF := by
  refine NdefX.nok_of (N := ["wanted", "digits", "low", "high", "bottom", "top"]) nsc_betw (fun doc pm ctv us h => ?_) (fun ws vs H Q E h => ?_) (fun A outer s H vs ws Q E hr hf hc lw h => ?_)
  · match us, h with
    | [a, b], _ => rfl
  · obtain ⟨low, high, d, x, v, _, rfl, _⟩ := h
    rfl
  · obtain ⟨low, high, d, x, v, rfl, rfl, hx, k⟩ := h
    refine ⟨_, PSs.nox (pss_cons (ps_if (pt_cmpR op_isN (pv 0) pe_non (nomark _)) (pss_one (ps_ret pe_non)) pss_nil)
      (pss_cons (ps_set (i := 4) nsc_betw.nd rfl (Or.inl rfl) (pe_un un_neg (pe_op op_fdivN (pe_op op_sub (pv 1) (pe_ix (ix_anyK (K := K) rfl) (pv 0) pe_int (fun _ _ => rfl))) pe_int)))
      (pss_cons (ps_set (i := 5) nsc_betw.nd rfl (Or.inl rfl) (pe_op op_fdivN (pe_op op_sub (pe_ix (ix_anyK (K := K) rfl) (pv 0) pe_int (fun _ _ => rfl)) (pv 1)) pe_int))
      (pss_cons (ps_if (pt_cmpR op_eq (pv 2) pe_int (nomark _)) (pss_one (ps_set (i := 4) nsc_betw.nd rfl (Or.inl rfl) (pe_callB (call_max2 rfl) (by rfl) T.max (by decide +kernel) (pa_cons (pv 4) (pa_cons pe_int pa_nil))))) pss_nil)
      (pss_cons (ps_if (pt_cmpR op_eq (pv 3) pe_int (nomark _)) (pss_one (ps_set (i := 5) nsc_betw.nd rfl (Or.inl rfl) (pe_callB (call_min2 rfl) (by rfl) T.min (by decide +kernel) (pa_cons (pv 5) (pa_cons pe_int pa_nil))))) pss_nil)
      (pss_one (ps_ret (pe_ifExp (pt_cmpR op_le (pv 4) (pv 5) (nomark _)) (pe_tup (pa_cons (pv 4) (pa_cons (pv 5) pa_nil))) pe_non)))))))), ?_⟩
    match x, hx with
    | none, hx =>
      obtain rfl : v = .non := hx
      exact ⟨_, rfl, rfl, _, rfl, if_yes rfl (k _ _ (Same.refl _) rfl)⟩
    | some (a, b), ⟨t, ev, ht⟩ =>
      subst ev
      obtain ⟨p0, ep0⟩ : ∃ p, p = -((d - a).fdiv 2) := ⟨_, rfl⟩
      obtain ⟨q0, eq0⟩ : ∃ p, p = (b - d).fdiv 2 := ⟨_, rfl⟩
      obtain ⟨p1, ep1⟩ : ∃ p, p = if low = 0 then max p0 0 else p0 := ⟨_, rfl⟩
      obtain ⟨q1, eq1⟩ : ∃ p, p = if high = 0 then min q0 0 else q0 := ⟨_, rfl⟩
      have ebf : bfn low high (some (a, b)) d = if p1 ≤ q1 then some (p1, q1) else none := by
        rw [ep1, eq1, ep0, eq0]
        rfl
      rw [ebf] at k
      refine ⟨_, rfl, rfl, _, rfl, if_no rfl (un_next ?_)⟩
      refine ⟨_, rfl, _, rfl, t, _, _, _, rfl, rfl, .inr (SqT.of ht), at0, _, _, rfl, rfl, _, _, rfl, rfl, ⟨by decide, by decide⟩, _, rfl, ?_⟩
      refine normG (σ' := [some (.ref t), some (.int d), some (.int low), some (.int high), some (.int p0), none]) (by rw [ep0]; rfl) ?_
      refine ⟨_, rfl, t, _, _, _, rfl, rfl, .inr (SqT.of ht), at1, _, rfl, _, _, rfl, rfl, _, _, rfl, rfl, ⟨by decide, by decide⟩, ?_⟩
      refine normG (σ' := [some (.ref t), some (.int d), some (.int low), some (.int high), some (.int p0), some (.int q0)]) (by rw [eq0]; rfl) ?_
      dsimp only
      refine mid (fun σ' H' => σ' = [some (.ref t), some (.int d), some (.int low), some (.int high), some (.int p1), some (.int q0)] ∧ H' = H) (fun key => ?_) ?_
      · refine ⟨_, rfl, rfl, _, rfl, ite2 (fun z => ?_) (fun z => ?_)⟩
        · have z : low = 0 := by
            have := of_decide_eq_true z
            injection this
          refine ⟨_, rfl, _, _, rfl, key _ _ ⟨?_, rfl⟩⟩
          have : p1 = if 0 > p0 then 0 else p0 := by rw [ep1, if_pos z]; split <;> omega
          rw [this]
          rfl
        · refine un_next (key _ _ ⟨?_, rfl⟩)
          have : p1 = p0 := by rw [ep1, if_neg fun h => z (decide_eq_true (by rw [h]))]
          rw [this]
      · rintro σ H' ⟨rfl, rfl⟩
        refine mid (fun σ' H2 => σ' = [some (.ref t), some (.int d), some (.int low), some (.int high), some (.int p1), some (.int q1)] ∧ H2 = H') (fun key => ?_) ?_
        · refine ⟨_, rfl, rfl, _, rfl, ite2 (fun z => ?_) (fun z => ?_)⟩
          · have z : high = 0 := by
              have := of_decide_eq_true z
              injection this
            refine ⟨_, rfl, _, _, rfl, key _ _ ⟨?_, rfl⟩⟩
            have : q1 = if 0 < q0 then 0 else q0 := by rw [eq1, if_pos z]; split <;> omega
            rw [this]
            rfl
          · refine un_next (key _ _ ⟨?_, rfl⟩)
            have : q1 = q0 := by rw [eq1, if_neg fun h => z (decide_eq_true (by rw [h]))]
            rw [this]
        · rintro σ H2 ⟨rfl, rfl⟩
          refine ⟨_, rfl, _, rfl, _, _, rfl, rfl, _, rfl, ite2 (fun z => ?_) (fun z => ?_)⟩
          · have z : p1 ≤ q1 := of_decide_eq_true z
            rw [if_pos z] at k
            exact ⟨_, rfl, _, rfl, sz2, fun u hu => k _ _ (same_new (Same.refl _) hu) ⟨u, rfl, upd_same⟩⟩
          · have z : ¬ p1 ≤ q1 := fun h => z (decide_eq_true h)
            rw [if_neg z] at k
            exact k _ _ (Same.refl _) rfl
theorem clo_betwE (T : Nb mg) (f c : Addr) (q : Str) : CloOk P w K mg base CX0 1 (cloN f ⟨"is_end", q, C8.fnArgs nst_betwE, C8.fnBody nst_betwE, nscope_betwE, [], c⟩ [] []) spBE := by
  refine clo_c (N := ["wanted"]) (ps := ["wanted"]) nsc_betwE (fun doc pm ctv us h => ?_) (fun vs H Q E h => ?_) (fun A outer s H vs Q E hr h => ?_)
  · match us, h with
    | [a], _ => rfl
  · obtain ⟨x, v, rfl, _⟩ := h
    rfl
  · obtain ⟨x, v, rfl, hx, k⟩ := h
    refine ⟨_, PSs.nox (pss_one (ps_ret (pe_and (pe_cmpR op_notN (pv 0) pe_non (nomark _)) (pe_one (pe_chain op_le op_le (pe_ix (ix_anyK (K := K) rfl) (pv 0) pe_int (fun _ _ => rfl)) pe_int (pe_ix (ix_anyK (K := K) rfl) (pv 0) pe_int (fun _ _ => rfl))))))), ?_⟩
    match x, hx with
    | none, hx =>
      obtain rfl : v = .non := hx
      exact ⟨_, rfl, rfl, _, rfl, if_no rfl k⟩
    | some (a, b), ⟨t, ev, ht⟩ =>
      subst ev
      refine ⟨_, rfl, rfl, _, rfl, if_yes rfl ?_⟩
      refine ⟨_, rfl, t, _, _, _, rfl, rfl, .inr (SqT.of ht), at0, _, _, rfl, rfl, _, rfl, ite2 (fun z => ?_) (fun z => ?_)⟩
      · have z : a ≤ 0 := of_decide_eq_true z
        refine ⟨_, rfl, t, _, _, _, rfl, rfl, .inr (SqT.of ht), at1, _, _, rfl, rfl, ?_⟩
        have : ZA.inside (some (a, b)) 0 = decide (0 ≤ b) := by
          show decide (a ≤ 0 ∧ 0 ≤ b) = decide (0 ≤ b)
          exact decide_eq_decide.mpr ⟨fun h => h.2, fun h => ⟨z, h⟩⟩
        rw [this] at k
        exact k
      · have z : ¬ a ≤ 0 := fun h => z (decide_eq_true h)
        have : ZA.inside (some (a, b)) 0 = false := decide_eq_false fun h => z h.1
        rw [this] at k
        exact k
def spBetwM (TS : List NdefX.NTab) : Sp := fun vs H Q _ => ∃ (fa : Addr) (fs : List Int) (x0 : Int), vs = [.ref fa, .int x0, .int x0] ∧ Sq H fa (fs.map V.int) ∧ 1 ≤ fs.length ∧ fs.length ≤ 4 ∧ -10 ≤ x0 ∧ x0 ≤ 10 ∧ ZA.highS fs - ZA.lowS fs ≤ 9 ∧ NdefX.TabsN TS H ∧
  ∀ v H' M, LamX.ExtN H H' → NdefX.TabsN TS H' → MaT H' v M → ZA.Least M (fun u => decide (ZA.total (2 ^ fs.length) fs u = x0)) → M.w = 2 ^ fs.length → M.n ≤ 20 → Q v H'
theorem sc_between_machine : FnScope ["factors", "least", "most", "low", "factor", "high", "follow", "is_end"] ["factors", "least", "most"] (defScope s_between_machine) := ⟨rfl, rfl, rfl, by decide +kernel, rfl, by decide +kernel, by decide +kernel⟩
theorem ok_betwM {f c TT : Addr} {fd : FuncData} {TS : List NdefX.NTab} (F : FnP K "between_machine" s_between_machine f fd) (hcode : fd.code = .ref c) (Mk : MkN base mg TS nm_between_machine c TT) (T : Nb mg) (dSums : Dn P w K mg base 1 "digit_sums" ["factors"] spSums) (dExpl : DnC P w K mg base 4 "explored" ["first", "letters", "follow", "is_end"] (fun z => z.1.C) (spExpl P w K mg base)) :
    FnOk P w K mg base CX0 5 f fd ["factors", "least", "most"] (spBetwM TS) := by
  refine okCode F hcode sc_between_machine (fun vs H Q E h => ?_) (fun A outer s H vs Q E hr h => ?_)
  · obtain ⟨fa, fs, x0, rfl, _⟩ := h
    rfl
  · obtain ⟨fa, fs, x0, rfl, hf, l1, l4, hx1, hx2, hsp, tabs, k⟩ := h
    have TB := Mk.tb
    have hmT := Mk.mem
    have hmu := Mk.uni
    obtain ⟨mk, emk⟩ : ∃ mk : Addr → NdefX.NF, mk = fun c' => ⟨"follow", "between_machine.<locals>.follow", C8.fnArgs nst_betw, C8.fnBody nst_betw, nscope_betw, cloFrom (envOfC "between_machine" (defScope s_between_machine) s.heap.objs.size f (.ref c)).cells nscope_betw.names [], c'⟩ := ⟨_, rfl⟩
    obtain ⟨Good, eG⟩ : ∃ Good : Clo × Clo → L2.St → Prop, Good = fun z σ => ∃ f' c', z.1 = cloN f' (mk c') ["low", "high"] ([3, 5].map (NdefX.slotAt σ)) := ⟨_, rfl⟩
    have hCx : ∀ pins σ H1 s1 z, Inv (cxOf CX0 P w K mg base ["factors", "least", "most", "low", "factor", "high", "follow", "is_end"] "between_machine" (defScope s_between_machine) f (.ref c) A outer s H E).nox pins σ H1 s1 → Good z σ → z.1.C s1.heap H1 := fun pins σ H1 s1 z I g => by
      rw [eG] at g
      obtain ⟨f', c', e⟩ := g
      rw [e, emk]
      exact NdefX.cells_of I (NdefX.Caps.made I.ok (NdefX.ndef_free (sc := defScope s_between_machine) (nsc := nscope_betw) (fr := ["low", "high"]) (by decide +kernel)) (NdefX.ndef_fr (sc := defScope s_between_machine) (nsc := nscope_betw) (by decide +kernel)) rfl)
    refine ⟨_, PSs.nox (pss_cons (ps_set (i := 3) sc_between_machine.nd rfl (Or.inr rfl) (pe_callB (cr_sum rfl) (by rfl) T.sum (by decide +kernel) (pa_cons (pe_lc (own := [("factor", 4)]) (g := gName 4) rfl sc_between_machine.nd (pi_anyK (K := K) rfl (pv 0)) (blkOk_by (N := ["factors", "least", "most", "low", "factor", "high", "follow", "is_end"]) (sc := defScope s_between_machine) (by decide +kernel)) (fun _ _ _ _ _ => (pg_name (i := 4) sc_between_machine.nd rfl (.inl rfl))) (fun _ _ _ _ _ => (pts_one (pt_cmpR op_lt (pv 4) pe_int (nomark _)))) (fun _ _ _ _ _ => (pv 4))) pa_nil)))
      (pss_cons (ps_set (i := 5) sc_between_machine.nd rfl (Or.inr rfl) (pe_callB (cr_sum rfl) (by rfl) T.sum (by decide +kernel) (pa_cons (pe_lc (own := [("factor", 4)]) (g := gName 4) rfl sc_between_machine.nd (pi_anyK (K := K) rfl (pv 0)) (blkOk_by (N := ["factors", "least", "most", "low", "factor", "high", "follow", "is_end"]) (sc := defScope s_between_machine) (by decide +kernel)) (fun _ _ _ _ _ => (pg_name (i := 4) sc_between_machine.nd rfl (.inl rfl))) (fun _ _ _ _ _ => (pts_one (pt_cmpR op_gt (pv 4) pe_int (nomark _)))) (fun _ _ _ _ _ => (pv 4))) pa_nil)))
      (pss_cons (NdefX.ps_ndefM (T := TS) (nm := nm_between_machine) (i := 6) TB rfl hmT (by rfl) hmu (NdefX.ndef_free (sc := defScope s_between_machine) (nsc := C8.fnScope (nst_betw)) (fr := ["low", "high"]) (by decide +kernel)) rfl rfl rfl sc_between_machine.nd rfl (.inl rfl) (.inl rfl))
      (pss_cons (NdefX.ps_ndefM (T := TS) (nm := nm_between_machine) (i := 7) TB rfl hmT (by rfl) hmu (NdefX.ndef_free (sc := defScope s_between_machine) (nsc := C8.fnScope (nst_betwE)) (fr := []) (by decide +kernel)) rfl rfl rfl sc_between_machine.nd rfl (.inl rfl) (.inl rfl))
      (pss_one (ps_ret (pe_dnC (Good := Good) dExpl hCx hr (pa_cons (pe_tup (pa_cons (pv 1) (pa_cons (pv 2) pa_nil))) (pa_cons (pe_dn dSums hr (pa_cons (pv 0) pa_nil)) (pa_cons (pv 6) (pa_cons (pv 7) pa_nil))))))))))), ?_⟩
    refine any_var rfl (xs := fs.map V.int) hf (fun J1 wk1 => ?_)
    intro D1 hD1
    refine lc_it wk1 (fun i Hc => Hc D1 = some (.lst (((fs.take i).filter fun f => decide (f < 0)).map V.int)) ∧ Same H Hc) ⟨upd_same, same_new (Same.refl _) hD1⟩ (fun i Hc _ ⟨_, s⟩ => hf.eqs s (Same.refl _)) ?_ ?_
    · rintro i x Hc Hc' hi ⟨eD, sc⟩ ⟨rfl, ex⟩
      obtain ⟨y, hy, rfl⟩ := map_at ex
      have step : (fs.take (i + 1)).filter (fun f => decide (f < 0)) = (fs.take i).filter (fun f => decide (f < 0)) ++ if y < 0 then [y] else [] := by
        rw [List.take_add_one, hy, List.filter_append]
        congr 1
        by_cases z : y < 0 <;> simp [z]
      refine ⟨rfl, _, rfl, _, _, rfl, rfl, _, rfl, ite2 (fun z => ?_) (fun z => ?_)⟩
      · have z : y < 0 := of_decide_eq_true z
        refine ⟨_, rfl, _, eD, szL _ ?_, ?_, same_upd sc hD1⟩
        · rw [List.length_map]
          have := List.length_filter_le (fun f => decide (f < 0)) (fs.take i)
          rw [List.length_take] at this
          omega
        · rw [upd_same, step, if_pos z, List.map_append]
          rfl
      · have z : ¬ y < 0 := fun h => z (decide_eq_true h)
        rw [step, if_neg z, List.append_nil]
        exact ⟨eD, sc⟩
    · rintro H1 ⟨eD1, s1⟩
      rw [List.length_map, List.take_length] at eD1
      refine ⟨D1, _, rfl, SqL.of eD1, ?_⟩
      rw [filt_low]
      refine normG (σ' := [some (.ref fa), some (.int x0), some (.int x0), some (.int (ZA.lowS fs)), none, none, none, none]) rfl ?_
      refine any_var rfl (xs := fs.map V.int) (hf.same s1) (fun J2 wk2 => ?_)
      intro D2 hD2
      refine lc_it wk2 (fun i Hc => Hc D2 = some (.lst (((fs.take i).filter fun f => decide (0 < f)).map V.int)) ∧ Same H1 Hc) ⟨upd_same, same_new (Same.refl _) hD2⟩ (fun i Hc _ ⟨_, s⟩ => hf.eqs (s1.trans s) s1) ?_ ?_
      · rintro i x Hc Hc' hi ⟨eD, sc⟩ ⟨rfl, ex⟩
        obtain ⟨y, hy, rfl⟩ := map_at ex
        have step : (fs.take (i + 1)).filter (fun f => decide (0 < f)) = (fs.take i).filter (fun f => decide (0 < f)) ++ if 0 < y then [y] else [] := by
          rw [List.take_add_one, hy, List.filter_append]
          congr 1
          by_cases z : 0 < y <;> simp [z]
        refine ⟨rfl, _, rfl, _, _, rfl, rfl, _, rfl, ite2 (fun z => ?_) (fun z => ?_)⟩
        · have z : 0 < y := of_decide_eq_true z
          refine ⟨_, rfl, _, eD, szL _ ?_, ?_, same_upd sc hD2⟩
          · rw [List.length_map]
            have := List.length_filter_le (fun f => decide (0 < f)) (fs.take i)
            rw [List.length_take] at this
            omega
          · rw [upd_same, step, if_pos z, List.map_append]
            rfl
        · have z : ¬ 0 < y := fun h => z (decide_eq_true h)
          rw [step, if_neg z, List.append_nil]
          exact ⟨eD, sc⟩
      · rintro H2 ⟨eD2, s2⟩
        rw [List.length_map, List.take_length] at eD2
        refine ⟨D2, _, rfl, SqL.of eD2, ?_⟩
        rw [filt_high]
        have s12 := s1.trans s2
        refine normG (σ' := [some (.ref fa), some (.int x0), some (.int x0), some (.int (ZA.lowS fs)), none, some (.int (ZA.highS fs)), none, none]) rfl ?_
        refine ⟨tabs.ext s12, fun f1 c1 H3 e3 nn3 tabs3 n1 hf1 hc1 => ?_⟩
        refine norm (N := fun σ _ => _) (σ' := [some (.ref fa), some (.int x0), some (.int x0), some (.int (ZA.lowS fs)), none, some (.int (ZA.highS fs)), some (.ref f1), none]) rfl ?_
        refine ⟨tabs3, fun f2 c2 H5 e5 nn5 tabs5 n2 hf2 hc2 => ?_⟩
        refine norm (N := fun σ _ => _) (σ' := [some (.ref fa), some (.int x0), some (.int x0), some (.int (ZA.lowS fs)), none, some (.int (ZA.highS fs)), some (.ref f1), some (.ref f2)]) rfl ?_
        have e25 := e3.trans e5
        refine ⟨_, rfl, _, rfl, sz2, fun tp htp => ?_⟩
        have s6 := same_new (o := .tup [V.int x0, V.int x0]) (Same.refl H5) htp
        refine ⟨_, rfl, fa, fs, rfl, (sq_ext (hf.same s12) e25).same s6, l4, fun ll H7 s7 hll => ?_⟩
        have s57 := s6.trans s7
        have htp7 := s7 _ _ (show upd H5 tp (.tup [V.int x0, V.int x0]) tp = _ from upd_same)
        obtain ⟨X, hX0, hXc, hXl⟩ := ZA.between_few (fs := fs) ⟨hx1, hx2⟩ hsp
        have w2 : 2 ≤ 2 ^ fs.length := Nat.le_trans (by decide : 2 ≤ 2 ^ 1) (Nat.pow_le_pow_right (by decide) l1)
        have wm : 2 ^ fs.length ≤ 1000 := Nat.le_trans (Nat.pow_le_pow_right (by decide) l4) (by decide : 2 ^ 4 ≤ 1000)
        refine ⟨_, rfl, _, rfl, (cloN f1 (mk c1) ["low", "high"] [some (.int (ZA.lowS fs)), some (.int (ZA.highS fs))], cloN f2 ⟨"is_end", "between_machine.<locals>.is_end", C8.fnArgs nst_betwE, C8.fnBody nst_betwE, nscope_betwE, [], c2⟩ [] []), by rw [eG]; exact ⟨f1, c1, rfl⟩, Option (Int × Int), inferInstance, optK, optR, ZA.betweenF fs, fun x => ZA.inside x 0, some (x0, x0), X, 2 ^ fs.length, ZA.dsums fs, .ref tp, ll, rfl, ?_, fun v H' M s' hv lst hw hn => ?_⟩
        · have e35 : LamX.ExtN H3 H7 := e5.trans (LamX.ExtN.of s57)
          refine ⟨opt_rep, ⟨tp, rfl, htp7⟩, hll, ZA.dsums_len fs, w2, wm, hX0, hXc.w, hXl, ⟨by rw [emk]; exact e35 _ _ hf1 (NdefX.fnO_ne (F := _)), by rw [emk]; exact e35 _ _ hc1 LamX.codeO_ne⟩, ⟨s57 _ _ hf2, s57 _ _ hc2⟩, ?_, ?_, fun h H => cells_nil⟩
          · rw [emk]
            refine ((clo_n (nok_betw T f1 c1 _ _)).mono (by decide)).imp ?_
            rintro vs H Q E ⟨x, v, cc, d, rfl, hv, hx, hc, hd, kk⟩
            refine ⟨_, _, d, x, v, rfl, rfl, hv, fun v' H' s' hv' => kk v' H' s' ?_⟩
            have hd2 : d = ZA.dsum fs cc := by
              have := ZA.dsums_at fs cc hc
              rw [this] at hd
              exact (Option.some.inj hd).symm
            rw [hd2] at hv'
            have : bfn (ZA.lowS fs) (ZA.highS fs) x (ZA.dsum fs cc) = ZA.betweenF fs x cc := by
              match x with
              | none => rfl
              | some (a, b) => rfl
            rw [this] at hv'
            exact hv'
          · refine ((clo_betwE T f2 c2 _).mono (by decide)).imp ?_
            rintro vs H Q E ⟨x, v, rfl, hv, hx, kk⟩
            exact ⟨x, v, rfl, hv, kk⟩
        · refine k v H' M (((LamX.ExtN.of s12).trans e25).trans ((LamX.ExtN.of s57).trans (LamX.ExtN.of s'))) (tabs5.ext fun b o e => s' _ _ (s57 _ _ e)) hv (lst.congr fun u => ?_) hw hn
          show ZA.inside (ZA.fold _ (ZA.betweenF fs) (some (x0, x0)) u) 0 = _
          rw [ZA.between_reads]
          show decide (x0 ≤ ZA.total (2 ^ fs.length) fs u ∧ ZA.total (2 ^ fs.length) fs u ≤ x0) = _
          exact decide_eq_decide.mpr ⟨fun h => by omega, fun h => by omega⟩
end
end K01
set_option maxHeartbeats 4000000
namespace K01
open PySem PySem.Spec PyProof.Rows L2 Z
def oneK : Option (Nat × Nat) → NestedKey
  | none => .none
  | some (a, b) => .tup [.num (a : Nat), .num (b : Nat)]
def oneRp (H : Hp) (x : Option (Nat × Nat)) (v : V) : Prop := match x with
  | none => v = .non
  | some (a, b) => ∃ t, v = .ref t ∧ H t = some (.tup [.int (a : Nat), .int (b : Nat)])
theorem one_rep : Rep oneK oneRp where
  inj := fun a b h => by
    match a, b, h with
    | none, none, _ => rfl
    | some (a1, a2), some (b1, b2), h =>
      injection h with h
      injection h with h1 h
      injection h with h2 _
      injection h1 with h1
      injection h2 with h2
      have e1 : a1 = b1 := by omega
      have e2 : a2 = b2 := by omega
      rw [e1, e2]
  same := fun H H' x v s h => by
    match x, h with
    | none, h => exact h
    | some (a, b), ⟨t, e, ht⟩ => exact ⟨t, e, s _ _ ht⟩
  nv := fun H x v h => by
    match x, h with
    | none, h => rw [show v = .non from h]; exact .non
    | some (a, b), ⟨t, e, ht⟩ => rw [e]; exact .tup ht (.cons (.int _) (.cons (.int _) .nil))
  dep := fun x => by
    match x with
    | none => exact Nat.zero_le _
    | some (a, b) => show max 0 (max 0 0) + 1 ≤ 8; decide
  up := fun {H H' x v} s h => by
    match x, h with
    | none, h => exact h
    | some (a, b), ⟨t, e, ht⟩ => exact ⟨t, e, s _ _ ht⟩
def nm_one_rest_machine (l _c : Nat) : Str := if l = 211 then "one_rest_machine.<locals>.follow" else "one_rest_machine.<locals>.<lambda>"
def nst_one : Stmt := (defBody s_one_rest_machine).getD 0 (.Pass ⟨0, 0, 0, 0⟩)
abbrev nscope_one : Scope := C8.fnScope nst_one
theorem nsc_one : FnScope ["wanted", "digits", "many", "left"] ["wanted", "digits"] nscope_one := ⟨rfl, rfl, rfl, by decide +kernel, rfl, by decide +kernel, by decide +kernel⟩
def bOneE : Expr := match (defBody s_one_rest_machine).getD 1 (.Pass ⟨0, 0, 0, 0⟩) with
  | .Return (some (.Call _ [_, _, _, .Lambda _ b _ _] _ _)) _ => b
  | _ => .Constant .none 0 ⟨0, 0, 0, 0⟩
def aOneE : Arguments := match (defBody s_one_rest_machine).getD 1 (.Pass ⟨0, 0, 0, 0⟩) with
  | .Return (some (.Call _ [_, _, _, .Lambda a _ _ _] _ _)) _ => a
  | _ => ⟨[], [], none, [], [], none, []⟩
def nscope_oneE : Scope := match (defBody s_one_rest_machine).getD 1 (.Pass ⟨0, 0, 0, 0⟩) with
  | .Return (some (.Call _ [_, _, _, .Lambda _ _ s _] _ _)) _ => s
  | _ => ⟨.function, [], false, false, []⟩
theorem nsc_oneE : NdefX.NScope ["wanted"] ["wanted"] [] nscope_oneE := NdefX.nscope_by (by decide +kernel)
/-- one step, by the digits' sum -/
def ofn (x : Option (Nat × Nat)) (d : Int) : Option (Nat × Nat) := match x with
  | none => none
  | some (m, l) => if m = 1 then some (m, l) else
    let q := (((l : Int) - d) % (m : Int)).toNat
    if m % 2 = 1 then some (m, (if q % 2 = 0 then q else q + m) / 2) else if q % 2 = 0 then some (m / 2, q / 2) else none
def spOF : Sp := fun vs H Q _ => ∃ (x : Option (Nat × Nat)) (v : V) (d : Int), vs = [v, .int d] ∧ oneRp H x v ∧ (∀ m l, x = some (m, l) → 1 ≤ m ∧ m ≤ 6 ∧ l < m) ∧ ∀ v' H', Same H H' → oneRp H' (ofn x d) v' → Q v' H'
def spOE : List (Option V) → Sp := fun _ vs H Q _ => ∃ (x : Option (Nat × Nat)) (v : V), vs = [v] ∧ oneRp H x v ∧ (∀ m l, x = some (m, l) → 1 ≤ m ∧ m ≤ 6 ∧ l < m) ∧ Q (.bl (ZA.oneR x 0)) H
section
variable {P : Program} {w : World} {K : PySem.W.Frag} {mg : Str → Option Value} {base : Heap}
theorem clo_one (f c : Addr) (q : Str) : CloOk P w K mg base CX0 1 (cloN f ⟨"follow", q, C8.fnArgs nst_one, C8.fnBody nst_one, nscope_one, [], c⟩ [] []) spOF := by
  refine clo_c (N := ["wanted", "digits", "many", "left"]) (ps := ["wanted", "digits"]) nsc_one (fun doc pm ctv us h => ?_) (fun vs H Q E h => ?_) (fun A outer s H vs Q E hr h => ?_)
  · match us, h with
    | [a, b], _ => rfl
  · obtain ⟨x, v, d, rfl, _⟩ := h
    rfl
  · obtain ⟨x, v, d, rfl, hx, bd, k⟩ := h
    refine ⟨_, PSs.nox (pss_cons (ps_if (PW.pt (pw_or (pt_cmpR op_isN (pv 0) pe_non (nomark _)) (pw_or1 (pt_cmpR op_eq (pe_ix (ix_anyK (K := K) rfl) (pv 0) pe_int (fun _ _ => rfl)) pe_int (nomark _))))) (pss_one (ps_ret (pv 0))) pss_nil)
      (pss_cons (ps_asg (pv 0) (pg_tup (by rfl) (pgs_cons (pg_name (i := 2) nsc_one.nd rfl (.inl rfl)) (pgs_cons (pg_name (i := 3) nsc_one.nd rfl (.inl rfl)) pgs_nil))))
      (pss_cons (ps_set (i := 3) nsc_one.nd rfl (Or.inl rfl) (pe_op op_modN (pe_op op_sub (pv 3) (pv 1)) (pv 2)))
      (pss_cons (ps_if (pt_cmpR op_eq (pe_op op_modN (pv 2) pe_int) pe_int (nomark _)) (pss_one (ps_ret (pe_tup (pa_cons (pv 2) (pa_cons (pe_op op_fdivN (pe_ifExp (pt_cmpR op_eq (pe_op op_modN (pv 3) pe_int) pe_int (nomark _)) (pv 3) (pe_op op_add (pv 3) (pv 2))) pe_int) pa_nil))))) pss_nil)
      (pss_one (ps_ret (pe_ifExp (pt_cmpR op_eq (pe_op op_modN (pv 3) pe_int) pe_int (nomark _)) (pe_tup (pa_cons (pe_op op_fdivN (pv 2) pe_int) (pa_cons (pe_op op_fdivN (pv 3) pe_int) pa_nil))) pe_non))))))), ?_⟩
    match x, hx with
    | none, hx =>
      obtain rfl : v = .non := hx
      exact ⟨_, rfl, rfl, _, rfl, if_yes rfl (if_yes rfl ⟨_, rfl, k _ _ (Same.refl _) rfl⟩)⟩
    | some (m, l), ⟨t, ev, ht⟩ =>
      subst ev
      obtain ⟨m1, m6, lm⟩ := bd m l rfl
      refine ⟨_, rfl, rfl, _, rfl, if_no rfl ⟨_, rfl, t, _, _, _, rfl, rfl, .inr (SqT.of ht), at0, rfl, _, rfl, ite2 (fun z => ?_) (fun z => ?_)⟩⟩
      · have z : m = 1 := by
          have := of_decide_eq_true z
          injection this with this
          omega
        refine ⟨_, rfl, k _ _ (Same.refl _) ?_⟩
        have : ofn (some (m, l)) d = some (m, l) := if_pos z
        rw [this]
        exact ⟨t, rfl, ht⟩
      · have z : m ≠ 1 := fun h => z (decide_eq_true (by rw [h]; rfl))
        obtain ⟨q, eq⟩ : ∃ q, q = (((l : Int) - d) % (m : Int)).toNat := ⟨_, rfl⟩
        have q0 := Int.emod_nonneg ((l : Int) - d) (b := (m : Int)) (by omega)
        have q1 := Int.emod_lt_of_pos ((l : Int) - d) (b := (m : Int)) (by omega)
        have eqf : ((l : Int) - d).fmod (m : Int) = (q : Int) := by
          rw [Int.fmod_eq_emod_of_nonneg _ (by omega), eq]
          omega
        have eof : ofn (some (m, l)) d = if m % 2 = 1 then some (m, (if q % 2 = 0 then q else q + m) / 2) else if q % 2 = 0 then some (m / 2, q / 2) else none := by
          rw [eq]
          exact if_neg z
        rw [eof] at k
        have f2 : ∀ n : Nat, ((n : Int).fmod 2) = ((n % 2 : Nat) : Int) := fun n => by
          rw [Int.fmod_eq_emod_of_nonneg _ (by decide)]
          omega
        have d2 : ∀ n : Nat, ((n : Int).fdiv 2) = ((n / 2 : Nat) : Int) := fun n => by
          rw [Int.fdiv_eq_ediv_of_nonneg _ (by decide)]
          omega
        refine un_next ⟨_, rfl, t, _, rfl, SqT.of ht, rfl, _, _, rfl, _, _, rfl, rfl, ?_⟩
        refine norm (N := fun σ _ => _) (σ' := [some (.ref t), some (.int d), some (.int (m : Nat)), some (.int (l : Nat))]) rfl ?_
        refine ⟨_, rfl, _, rfl, _, _, rfl, rfl, _, rfl, _, _, rfl, rfl, (by show (m : Int) ≠ 0; omega), ?_⟩
        refine normG (σ' := [some (.ref t), some (.int d), some (.int (m : Nat)), some (.int (q : Nat))]) (by rw [← eqf]; rfl) ?_
        refine ⟨_, rfl, _, _, rfl, rfl, (by show (2 : Int) ≠ 0; decide), rfl, _, rfl, ite2 (fun y => ?_) (fun y => ?_)⟩
        · have y : m % 2 = 1 := by
            have := of_decide_eq_true y
            injection this with this
            have := f2 m
            omega
          rw [if_pos y] at k
          refine ⟨_, rfl, _, rfl, _, _, rfl, rfl, (by show (2 : Int) ≠ 0; decide), rfl, _, rfl, ite2 (fun y2 => ?_) (fun y2 => ?_)⟩
          · have y2 : q % 2 = 0 := by
              have := of_decide_eq_true y2
              injection this with this
              have := f2 q
              omega
            rw [if_pos y2] at k
            refine ⟨_, rfl, _, _, rfl, rfl, ⟨by decide, by decide⟩, sz2, fun u hu => k _ _ (same_new (Same.refl _) hu) ⟨u, rfl, ?_⟩⟩
            rw [upd_same]
            dsimp only
            rw [d2]
          · have y2 : ¬ q % 2 = 0 := fun h => y2 (decide_eq_true (by show V.int ((q : Int).fmod 2) = V.int 0; rw [f2, h]; rfl))
            rw [if_neg y2] at k
            refine ⟨_, rfl, _, rfl, _, _, rfl, rfl, _, _, rfl, rfl, ⟨by decide, by decide⟩, sz2, fun u hu => k _ _ (same_new (Same.refl _) hu) ⟨u, rfl, ?_⟩⟩
            rw [upd_same, ← d2]
            rfl
        · have y : ¬ m % 2 = 1 := fun h => y (decide_eq_true (by show V.int ((m : Int).fmod 2) = V.int 1; rw [f2, h]; rfl))
          rw [if_neg y] at k
          refine un_next ⟨_, rfl, _, _, rfl, rfl, (by show (2 : Int) ≠ 0; decide), rfl, _, rfl, ite2 (fun y2 => ?_) (fun y2 => ?_)⟩
          · have y2 : q % 2 = 0 := by
              have := of_decide_eq_true y2
              injection this with this
              have := f2 q
              omega
            rw [if_pos y2] at k
            refine ⟨_, rfl, _, _, rfl, rfl, ⟨by decide, by decide⟩, _, rfl, _, _, rfl, rfl, ⟨by decide, by decide⟩, sz2, fun u hu => k _ _ (same_new (Same.refl _) hu) ⟨u, rfl, ?_⟩⟩
            rw [upd_same]
            dsimp only
            rw [d2, d2]
          · have y2 : ¬ q % 2 = 0 := fun h => y2 (decide_eq_true (by show V.int ((q : Int).fmod 2) = V.int 0; rw [f2, h]; rfl))
            rw [if_neg y2] at k
            exact k _ _ (Same.refl _) rfl
theorem clo_oneE (f c : Addr) (q : Str) : CloOk P w K mg base CX0 1 (cloL f ⟨"<lambda>", q, aOneE, [], nscope_oneE, [], c⟩ bOneE [] []) (spOE []) := by
  refine clo_l (N := ["wanted"]) (ps := ["wanted"]) (fr := []) (sp := spOE) (ws := []) nsc_oneE (fun pm ctv us h => ?_) (fun ws vs H Q E h => ?_) (fun A outer s H vs Q E hr h => ?_)
  · match us, h with
    | [a], _ => rfl
  · obtain ⟨x, v, rfl, _⟩ := h
    rfl
  · obtain ⟨x, v, rfl, hx, bd, k⟩ := h
    refine ⟨_, (pe_and (pe_cmpR op_notN (pv 0) pe_non (nomark _)) (pe_one (pe_cmpR op_eq (pe_ix (ix_anyK (K := K) rfl) (pv 0) pe_int (fun _ _ => rfl)) pe_int (nomark _)))), ?_⟩
    match x, hx with
    | none, hx =>
      obtain rfl : v = .non := hx
      exact ⟨_, rfl, rfl, _, rfl, if_no rfl k⟩
    | some (m, l), ⟨t, ev, ht⟩ =>
      subst ev
      obtain ⟨m1, m6, lm⟩ := bd m l rfl
      refine ⟨_, rfl, rfl, _, rfl, if_yes rfl ⟨_, rfl, t, _, _, _, rfl, rfl, .inr (SqT.of ht), at1, rfl, ?_⟩⟩
      have : ZA.oneR (some (m, l)) 0 = decide (V.int (l : Nat) = V.int 0) := by
        show decide ((0 : Int) % (m : Int) = (l : Int)) = _
        rw [Int.zero_emod]
        exact decide_eq_decide.mpr ⟨fun h => by rw [← h], fun h => by injection h with h; exact h.symm⟩
      rw [this] at k
      exact k
def spOneM (TS : List NdefX.NTab) : Sp := fun vs H Q _ => ∃ (fa : Addr) (fs : List Int) (m r : Nat), vs = [.ref fa, .int (m : Nat), .int (r : Nat)] ∧ Sq H fa (fs.map V.int) ∧ 1 ≤ fs.length ∧ fs.length ≤ 4 ∧ 1 ≤ m ∧ m ≤ 6 ∧ r < m ∧ NdefX.TabsN TS H ∧
  ∀ v H' A, LamX.ExtN H H' → NdefX.TabsN TS H' → MaT H' v A → A.Ok → 0 < A.n → A.n ≤ 20 → A.w = 2 ^ fs.length → (∀ u, A.lang 0 u = decide (ZA.total (2 ^ fs.length) fs u % (m : Int) = (r : Int))) → Q v H'
theorem sc_one_rest_machine : FnScope ["factors", "m", "rest", "follow"] ["factors", "m", "rest"] (defScope s_one_rest_machine) := ⟨rfl, rfl, rfl, by decide +kernel, rfl, by decide +kernel, by decide +kernel⟩
theorem ok_oneM {f c TT : Addr} {fd : FuncData} {TS : List NdefX.NTab} (F : FnP K "one_rest_machine" s_one_rest_machine f fd) (hcode : fd.code = .ref c) (Mk : MkN base mg TS nm_one_rest_machine c TT) (T : Nb mg) (dSums : Dn P w K mg base 1 "digit_sums" ["factors"] spSums) (dExplF : DnC P w K mg base 3 "explored_freely" ["first", "letters", "follow", "is_end"] (fun z => z.1.C) (spExplF P w K mg base)) :
    FnOk P w K mg base CX0 4 f fd ["factors", "m", "rest"] (spOneM TS) := by
  refine okCode F hcode sc_one_rest_machine (fun vs H Q E h => ?_) (fun A outer s H vs Q E hr h => ?_)
  · obtain ⟨fa, fs, m, r, rfl, _⟩ := h
    rfl
  · obtain ⟨fa, fs, m, r, rfl, hf, l1, l4, hm1, hm2, hrm, tabs, k⟩ := h
    have TB := Mk.tb
    have hmT := Mk.mem
    have hmu := Mk.uni
    obtain ⟨Good, eG⟩ : ∃ Good : Clo × Clo → L2.St → Prop, Good = fun z σ => ∀ h H, z.1.C h H := ⟨_, rfl⟩
    have hCx : ∀ pins σ H1 s1 z, Inv (cxOf CX0 P w K mg base ["factors", "m", "rest", "follow"] "one_rest_machine" (defScope s_one_rest_machine) f (.ref c) A outer s H E).nox pins σ H1 s1 → Good z σ → z.1.C s1.heap H1 := fun pins σ H1 s1 z I g => by
      rw [eG] at g
      exact g _ _
    refine ⟨_, PSs.nox (pss_cons (NdefX.ps_ndefM (T := TS) (nm := nm_one_rest_machine) (i := 3) TB rfl hmT (by rfl) hmu (NdefX.ndef_free (sc := defScope s_one_rest_machine) (nsc := C8.fnScope (nst_one)) (fr := []) (by decide +kernel)) rfl rfl rfl sc_one_rest_machine.nd rfl (.inl rfl) (.inl rfl))
      (pss_one (ps_ret (pe_dnC (Good := Good) dExplF hCx hr (pa_cons (pe_tup (pa_cons (pv 1) (pa_cons (pv 2) pa_nil))) (pa_cons (pe_dn dSums hr (pa_cons (pv 0) pa_nil)) (pa_cons (pv 3) (pa_cons (pe_lamE (T := TS) (nm := nm_one_rest_machine) TB rfl hmT (by rfl) hmu rfl (NdefX.ndef_free (sc := defScope s_one_rest_machine) (nsc := nscope_oneE) (fr := []) (by decide +kernel))) pa_nil)))))))), ?_⟩
    refine ⟨tabs, fun f1 c1 H3 e3 nn3 tabs3 n1 hf1 hc1 => ?_⟩
    refine norm (N := fun σ _ => _) (σ' := [some (.ref fa), some (.int (m : Nat)), some (.int (r : Nat)), some (.ref f1)]) rfl ?_
    refine ⟨_, rfl, _, rfl, sz2, fun tp htp => ?_⟩
    have s4 := same_new (o := .tup [V.int (m : Nat), V.int (r : Nat)]) (Same.refl H3) htp
    refine ⟨_, rfl, fa, fs, rfl, (sq_ext hf e3).same s4, l4, fun ll H5 s5 hll => ?_⟩
    have s45 := s4.trans s5
    have htp5 := s5 _ _ (show upd H3 tp (.tup [V.int (m : Nat), V.int (r : Nat)]) tp = _ from upd_same)
    refine ⟨_, rfl, tabs3.ext s45, fun f2 c2 H6 e6 tabs6 n2 hf2 hc2 => ?_⟩
    obtain ⟨hX0, hXc, hXl⟩ := ZA.one_few (fs := fs) ⟨hm1, hm2⟩ hrm
    have w2 : 2 ≤ 2 ^ fs.length := Nat.le_trans (by decide : 2 ≤ 2 ^ 1) (Nat.pow_le_pow_right (by decide) l1)
    have wm : 2 ^ fs.length ≤ 1000 := Nat.le_trans (Nat.pow_le_pow_right (by decide) l4) (by decide : 2 ^ 4 ≤ 1000)
    have bdX : ∀ x, x ∈ ZA.oneStates m → ∀ m' l, x = some (m', l) → 1 ≤ m' ∧ m' ≤ 6 ∧ l < m' := fun x hx m' l e => by
      rw [e] at hx
      obtain ⟨h1, h2⟩ := ZA.mem_one.mp hx
      unfold ZA.chainM at h1
      refine ⟨by omega, ?_, h2⟩
      split at h1
      · simp at h1; omega
      · split at h1
        · simp at h1; omega
        · split at h1
          · simp at h1; omega
          · simp at h1; omega
    refine ⟨(cloN f1 ⟨"follow", "one_rest_machine.<locals>.follow", C8.fnArgs nst_one, C8.fnBody nst_one, nscope_one, [], c1⟩ [] [], cloL f2 ⟨"<lambda>", "one_rest_machine.<locals>.<lambda>", aOneE, [], nscope_oneE, [], c2⟩ bOneE [] []), by rw [eG]; exact fun h H => cells_nil, Option (Nat × Nat), inferInstance, oneK, oneRp, ZA.oneF fs, fun x => ZA.oneR x 0, some (m, r), ZA.oneStates m, 2 ^ fs.length, ZA.dsums fs, .ref tp, ll, rfl, ?_, fun v H' met rows s' hv ex lm => ?_⟩
    · have e36 : LamX.ExtN H3 H6 := (LamX.ExtN.of s45).trans e6
      refine ⟨one_rep, ⟨tp, rfl, e6 _ _ htp5 (fun _ z => by cases z)⟩, e6 _ _ hll (fun _ z => by cases z), ZA.dsums_len fs, w2, wm, hX0, hXc.w, hXl, ⟨e36 _ _ hf1 (NdefX.fnO_ne (F := _)), e36 _ _ hc1 LamX.codeO_ne⟩, ⟨hf2, hc2⟩, ?_, ?_, fun h H => cells_nil⟩
      · refine ((clo_one f1 c1 _).mono (by decide)).imp ?_
        rintro vs H Q E ⟨x, v, cc, d, rfl, hv, hx, hc, hd, kk⟩
        refine ⟨x, v, d, rfl, hv, bdX x hx, fun v' H' s' hv' => kk v' H' s' ?_⟩
        have hd2 : d = ZA.dsum fs cc := by
          have := ZA.dsums_at fs cc hc
          rw [this] at hd
          exact (Option.some.inj hd).symm
        rw [hd2] at hv'
        have : ofn x (ZA.dsum fs cc) = ZA.oneF fs x cc := by
          match x with
          | none => rfl
          | some (a, b) => rfl
        rw [this] at hv'
        exact hv'
      · refine ((clo_oneE f2 c2 _).mono (by decide)).imp ?_
        rintro vs H Q E ⟨x, v, rfl, hv, hx, kk⟩
        exact ⟨x, v, rfl, hv, bdX x hx, kk⟩
    · refine k v H' _ ((e3.trans (LamX.ExtN.of s45)).trans (e6.trans (LamX.ExtN.of s'))) (tabs6.ext s') hv (ex.ok (Nat.le_trans (by decide) w2)) ?_ ?_ rfl (fun u => ?_)
      · show 0 < rows.length
        rw [ex.len]
        exact (List.getElem?_eq_some_iff.mp ex.zero).1
      · show rows.length ≤ 20
        rw [ex.len]
        exact lm
      · rw [ex.lang (Nat.le_trans (by decide) w2) u 0 _ ex.zero]
        show ZA.oneR (ZA.fold _ (ZA.oneF fs) (some (m, r)) u) 0 = _
        rw [ZA.oneF_reads u (some (m, r)) hrm]
        rfl
end
end K01
namespace ZA
def shP (v : List Bool) (p : Nat) : Bool := v.length % p == 0 && v == (List.replicate (v.length / p) (v.take p)).flatten
def shF (v : List Bool) : Nat → Nat → List Bool
  | _, 0 => v
  | p, n + 1 => if shP v p then v.take p else shF v (p + 1) n
def sh (v : List Bool) : List Bool := shF v 1 (v.length - 1)
theorem shF_like {v : List Bool} (hv : v ≠ []) : ∀ (n p : Nat), 1 ≤ p → p + n = v.length → RestLike v (shF v p n) ∧ 1 ≤ (shF v p n).length ∧ (shF v p n).length ≤ v.length
  | 0, p, _, _ => ⟨⟨hv, fun _ => rfl⟩, List.length_pos_iff.mpr hv, Nat.le_refl _⟩
  | n + 1, p, hp, e => by
    show RestLike v (if shP v p then v.take p else shF v (p + 1) n) ∧ 1 ≤ (if shP v p then v.take p else shF v (p + 1) n).length ∧ (if shP v p then v.take p else shF v (p + 1) n).length ≤ v.length
    by_cases h : shP v p = true
    · rw [if_pos h]
      unfold shP at h
      rw [Bool.and_eq_true] at h
      have h1 : v.length % p = 0 := by simpa using h.1
      have h2 : v = (List.replicate (v.length / p) (v.take p)).flatten := by simpa using h.2
      have l : (v.take p).length = p := by rw [List.length_take]; omega
      have ne : v.take p ≠ [] := fun z => by rw [z] at l; simp at l; omega
      have k : 1 ≤ v.length / p := (Nat.one_le_div_iff (by omega)).mpr (by omega)
      refine ⟨⟨ne, fun t => ?_⟩, by omega, by omega⟩
      have := at_rep (v := v.take p) (k := v.length / p) ne k t
      rw [← this, ← h2]
    · rw [if_neg h]
      exact shF_like hv n (p + 1) (by omega) (by omega)
theorem sh_like {v : List Bool} (hv : v ≠ []) : RestLike v (sh v) := (shF_like hv _ 1 (Nat.le_refl _) (by have := List.length_pos_iff.mpr hv; omega)).1
theorem sh_len {v : List Bool} (hv : v ≠ []) : 1 ≤ (sh v).length ∧ (sh v).length ≤ v.length := (shF_like hv _ 1 (Nat.le_refl _) (by have := List.length_pos_iff.mpr hv; omega)).2
theorem sh_step {v : List Bool} {i : Nat} (hi : i < v.length - 1) : shF v (1 + i) (v.length - 1 - i) = if shP v (1 + i) then v.take (1 + i) else shF v (1 + (i + 1)) (v.length - 1 - (i + 1)) := by
  obtain ⟨m, hm⟩ : ∃ m, v.length - 1 - i = m + 1 := ⟨v.length - 1 - i - 1, by omega⟩
  have e2 : v.length - 1 - (i + 1) = m := by omega
  rw [hm, e2]
  rfl
theorem sh_end {v : List Bool} : shF v (1 + (v.length - 1)) (v.length - 1 - (v.length - 1)) = v := by
  rw [Nat.sub_self]
  rfl
/-- .. and how long they are -/
theorem rest_few_len {fs : List Int} {v0 : List Bool} (h0 : 1 ≤ v0.length ∧ v0.length ≤ 6) : ∃ F : List (List Bool), v0 ∈ F ∧ Closed (restF sh fs) F ∧ F.length ≤ 20 ∧ ∀ x ∈ F, 1 ≤ x.length ∧ x.length ≤ 6 := by
  obtain ⟨F, h1, h2, h3⟩ := rest_few (fs := fs) (sh := sh) (fun v hv => sh_len hv) h0
  refine ⟨F.filter fun x => decide (1 ≤ x.length ∧ x.length ≤ 6), List.mem_filter.mpr ⟨h1, by simpa using h0⟩, fun x hx c => ?_, Nat.le_trans (List.length_filter_le _ _) h3, fun x hx => by simpa using (List.mem_filter.mp hx).2⟩
  obtain ⟨q1, q2⟩ := List.mem_filter.mp hx
  have q2 : 1 ≤ x.length ∧ x.length ≤ 6 := by simpa using q2
  refine List.mem_filter.mpr ⟨h2 x q1 c, ?_⟩
  have : 1 ≤ (restF sh fs x c).length ∧ (restF sh fs x c).length ≤ 6 := by
    unfold restF
    split
    · omega
    · split
      · simp only [oddR, List.length_map, List.length_range]; omega
      · have hl : (evenR x (dsum fs c)).length = x.length / 2 := by simp [evenR]
        have q := sh_len (v := evenR x (dsum fs c)) (fun e => by rw [e] at hl; simp at hl; omega)
        omega
  simpa using this
def cgcd (m : Nat) (fs : List Int) : Nat := fs.foldl (fun c f => Nat.gcd c f.natAbs) m
theorem cgcd_snoc (m : Nat) (fs : List Int) (f : Int) : cgcd m (fs ++ [f]) = Nat.gcd (cgcd m fs) f.natAbs := by
  unfold cgcd
  rw [List.foldl_append]
  rfl
theorem cgcd_dvd : ∀ (fs : List Int) (m : Nat), cgcd m fs ∣ m ∧ ∀ f ∈ fs, ((cgcd m fs : Nat) : Int) ∣ f
  | [], m => ⟨Nat.dvd_refl m, fun f h => by cases h⟩
  | g :: fs, m => by
    obtain ⟨h1, h2⟩ := cgcd_dvd fs (Nat.gcd m g.natAbs)
    refine ⟨Nat.dvd_trans h1 (Nat.gcd_dvd_left _ _), fun f hf => ?_⟩
    rcases List.mem_cons.mp hf with rfl | hf
    · exact Int.dvd_natAbs.mp (Int.natCast_dvd_natCast.mpr (Nat.dvd_trans h1 (Nat.gcd_dvd_right _ _)))
    · exact h2 f hf
theorem dsum_scale {c : Int} (hc : c ≠ 0) : ∀ (fs : List Int) (k : Nat), (∀ f ∈ fs, c ∣ f) → dsum fs k = c * dsum (fs.map fun f => f.fdiv c) k
  | [], k, _ => by simp [dsum]
  | f :: fs, k, h => by
    have ih := dsum_scale hc fs (k / 2) fun g hg => h g (List.mem_cons_of_mem _ hg)
    obtain ⟨q, hq⟩ := h f List.mem_cons_self
    have e : f.fdiv c = q := by rw [hq, Int.mul_fdiv_cancel_left _ hc]
    show (if k % 2 = 1 then f else 0) + dsum fs (k / 2) = c * ((if k % 2 = 1 then f.fdiv c else 0) + dsum (fs.map fun f => f.fdiv c) (k / 2))
    rw [Int.mul_add, ← ih, e]
    by_cases z : k % 2 = 1
    · rw [if_pos z, if_pos z, ← hq]
    · rw [if_neg z, if_neg z, Int.mul_zero]
theorem total_scale {c : Int} (hc : c ≠ 0) {w : Nat} {fs : List Int} (h : ∀ f ∈ fs, c ∣ f) : ∀ u : List Nat, total w fs u = c * total w (fs.map fun f => f.fdiv c) u
  | [] => by simp [total]
  | k :: u => by
    show dsum fs (k % w) + 2 * total w fs u = c * (dsum (fs.map fun f => f.fdiv c) (k % w) + 2 * total w (fs.map fun f => f.fdiv c) u)
    rw [dsum_scale hc fs _ h, total_scale hc h u, Int.mul_add, Int.mul_left_comm 2]
/-- which rests of c * mq are wanted, at the multiples of c -/
def wantB (c mq : Nat) (rs : List Int) : List Bool := (List.range mq).map fun i => decide (((i * c : Nat) : Int) ∈ rs)
theorem wantB_len (c mq : Nat) (rs : List Int) : (wantB c mq rs).length = mq := by simp [wantB]
theorem wantB_at {c mq : Nat} {rs : List Int} (h : 0 < mq) (hc : 0 < c) (t : Int) : atR (wantB c mq rs) t = decide (((c : Int) * t) % ((c * mq : Nat) : Int) ∈ rs) := by
  unfold wantB
  rw [atR_map h]
  have p := Int.emod_nonneg t (b := (mq : Int)) (by omega)
  have e : (((t % (mq : Int)).toNat * c : Nat) : Int) = ((c : Int) * t) % ((c * mq : Nat) : Int) := by
    rw [Int.natCast_mul, Int.natCast_mul, Int.toNat_of_nonneg p, Int.mul_emod_mul_of_pos _ _ (by omega), Int.mul_comm]
  rw [e]
end ZA
set_option maxHeartbeats 4000000
namespace Z
open PySem PySem.Spec PyProof.Rows L2
open Sem (wp)
open AutoSeq1 (wpAny_loadPart')
theorem drawsC {prog : PySem.Program} {w : World} {A : Around} (hh : A.handled = none) (it : Addr) (lo c : Int) (n : Nat) :
    Draws prog w A it [it] n (fun i v => ∃ t, v = .int (lo + (i : Nat) * c) t) (fun i h => IsRangeIter h it (lo + (i : Nat) * c) ((n : Int) - (i : Nat)) c) where
  live := fun i h st => ⟨_, st⟩
  frame := fun i h h' st k => k it (by simp) _ st
  item := fun i s Q E hi st hQ => by
    have hT : s.TypeIs (.ref it) "range_iterator" := ⟨_, st, rfl⟩
    unfold Builtin.SmallTypes.nextOf
    refine wpAny_bind (wpAny_callSpecial?_slot (name := Str.ofString "__next__") hT F.slot_range_iterator_next
      (call_meets F.slot_range_iterator_next hT F.entry_range_iterator_next (F.args_range_iterator_next_1 _) (AutoRange.range_iterator___next___range_iterator_1 it _ _ _ (by omega)) ⟨st, ?_⟩))
    refine wpAny_pure (hQ _ _ _ ⟨_, rfl⟩ ?_ ((Heap.SameBut.update ..).trans (Heap.SameBut.update ..)))
    have e := Heap.get?_update_self (Obj.mapFields fun x => x.setIfInBounds 1 (rawInt ((n : Int) - i - 1))) (Heap.get?_update_self (Obj.mapFields fun x => x.setIfInBounds 0 (rawInt (lo + (i : Int) * c + c))) st rfl) rfl
    have e1 : lo + ((i + 1 : Nat) : Int) * c = lo + (i : Int) * c + c := by push_cast; rw [Int.add_mul, Int.one_mul, Int.add_assoc]
    have e2 : (n : Int) - ((i + 1 : Nat) : Int) = (n : Int) - i - 1 := by push_cast; omega
    rw [e1, e2]
    exact e
  done := fun s Q E st hE => by
    have hT : s.TypeIs (.ref it) "range_iterator" := ⟨_, st, rfl⟩
    unfold Builtin.SmallTypes.nextOf
    refine wpAny_bind (wpAny_callSpecial?_slot (name := Str.ofString "__next__") hT F.slot_range_iterator_next
      (wpAny_call_entry F.slot_range_iterator_next hT F.entry_range_iterator_next ?_ (F.args_range_iterator_next_1 _)))
    show wpAny _ _ (field (.ref it) 0 >>= _) _ _ s
    refine wpAny_bind (wpAny_field st rfl (x := rawInt (lo + (n : Nat) * c)) rfl ?_)
    show wpAny _ _ (field (.ref it) 1 >>= _) _ _ s
    refine wpAny_bind (wpAny_field st rfl (x := rawInt ((n : Int) - (n : Nat))) rfl ?_)
    show wpAny _ _ (field (.ref it) 2 >>= _) _ _ s
    refine wpAny_bind (wpAny_field st rfl (x := rawInt c) rfl ?_)
    show wpAny _ _ (if ((n : Int) - (n : Nat)) ≤ 0 then _ else _) _ _ s
    rw [if_pos (by omega)]
    refine wpAny_bind (wpAny_rule ?_)
    refine wpAny_bind ?_
    show wpAny _ _ (newExc (.type "StopIteration") [] >>= _) _ _ _
    refine wpAny_bind ?_
    simp only [newExc, newTuple]
    refine wpAny_bind (wpAny_newObj_type ?_ (by size_fits))
    refine wpAny_bind (m := firstArgMember _ _) (wpAny_of_eq (a := Value.none) (by first | rfl | (simp only [firstArgMember]; rfl)) ?_)
    refine wpAny_newObj_type ?_ (by size_fits)
    simp only [raiseNew]
    refine wpAny_bind (wpAny_handled ?_)
    first | rw [show A.in1.handled = none from hh] | rw [hh]
    refine wpAny_bind (wpAny_pure (wpAny_throw ?_))
    exact hE _ _ (((Heap.ExtBut.refl it s.heap).push _).push _) ⟨_, Heap.get?_push_size _ rfl, rfl⟩
/-- the range's iterator, and the enumerate behind it -/
abbrev rngIt (lo n c : Int) : Obj := { cls := .type "range_iterator", data := .fields #[rawInt lo, rawInt n, rawInt c] }
abbrev enrHeap (h : Heap) (lo n c : Int) : Heap := (h.push (rngIt lo n c)).push (enuOb h.objs.size)
theorem new_enr {r : Addr} {a b c : Int} {t u v : Tok} (hs : Builtin.Range.small a b c = true) :
    Meets (Builtin.«enumerate.__new__» ⟨[.type "enumerate", .ref r], []⟩) fun _ R s => IsRange s.heap r a b c t u v ∧ R (.ok (.ret (.ref (s.heap.push (rngIt a (Builtin.Range.rangeSize a b c) c)).objs.size))) { s with heap := enrHeap s.heap a (Builtin.Range.rangeSize a b c) c } := by
  refine .of_wp fun prog w A R s z => ?_
  cases s with
  | mk hp g d tk os =>
    have there := z.1
    have isT : IsRange (Shared.heap ⟨hp, g, d, tk, os⟩) r a b c t u v := there
    have sub := sub_enumerate
    wp_walk using wpAny_loadPart' there
    refine wpAny_stack_any fun st => wpAny_pure ?_
    split
    case h_1 c _ _ _ _ _ => cases (c == Value.type "enumerate") <;> (wp_walk using wpAny_loadPart' there, wpAny_pyIter_range isT hs; exact ⟨_, rfl, z.2⟩)
    case h_2 => wp_walk using wpAny_loadPart' there, wpAny_pyIter_range isT hs; exact ⟨_, rfl, z.2⟩
section
variable {h : Heap} {lo n c : Int}
theorem enr_old {b : Addr} {o : Obj} (e : h.get? b = some o) : (enrHeap h lo n c).get? b = some o := Heap.get?_push_of_some _ (Heap.get?_push_of_some _ e)
theorem enr_it : IsRangeIter (enrHeap h lo n c) h.objs.size lo n c := Heap.get?_push_of_some _ (Heap.get?_push_size h rfl)
theorem enr_en : IsEnum (enrHeap h lo n c) (h.objs.size + 1) h.objs.size 0 .none := by
  have z := Heap.get?_push_size (h.push (rngIt lo n c)) (o := enuOb h.objs.size) rfl
  rwa [Heap.size_push] at z
end
theorem call_enr {prog : PySem.Program} {w : World} {A : Around} {E : Value → Shared → Prop} {s : Shared} {r : Addr} {a b c : Int} {t u v : Tok} {Q : Value → Shared → Prop} (hs : Builtin.Range.small a b c = true) (isT : IsRange s.heap r a b c t u v)
    (k : Q (.ref (s.heap.objs.size + 1)) { s with heap := enrHeap s.heap a (Builtin.Range.rangeSize a b c) c }) :
    wpAny (model prog w) A (call (.type "enumerate") [.ref r]) Q E s := by
  refine callType_new F.called_enumerate (by decide) (F.typeCall_enumerate_1 _) (F.newCall_enumerate_1 _) (fun obj => F.args_object_init_2 obj _) F.entry_enumerate_new (new_enr hs) ⟨isT, ?_⟩
  have N : (s.heap.push (rngIt a (Builtin.Range.rangeSize a b c) c)).objs.size = s.heap.objs.size + 1 := Heap.size_push ..
  show _ ∧ _
  rw [N]
  exact ⟨⟨_, enr_en, rfl⟩, k⟩
/-- lo, lo + c, .. each with its number in a new pair -/
def Ier (lo c : Int) (n : Nat) : It where
  go i H := i < n
  yld i H v H' := ∃ T, v = .ref T ∧ H T = none ∧ H' = upd H T (.tup [.int (i : Nat), .int (lo + (i : Nat) * c)])
  stop i H := i = n
def EnRg (lo c : Int) (n : Nat) (e it : Addr) (i : Nat) (h : Heap) : Prop := (∃ old, IsEnum h e it (i : Int) old) ∧ IsRangeIter h it (lo + (i : Nat) * c) ((n : Int) - (i : Nat)) c ∧ e ≠ it
section
variable {e it : Addr} {lo c : Int} {n i : Nat} {h h' : Heap}
theorem EnRg.objs (z : EnRg lo c n e it i h) : (∃ o, h.get? e = some o ∧ ∀ v, o.data ≠ .cell v) ∧ ∃ o, h.get? it = some o ∧ ∀ v, o.data ≠ .cell v := by
  obtain ⟨⟨old, z1⟩, z2, _⟩ := z
  exact ⟨⟨_, z1, fun v y => Data.noConfusion y⟩, _, z2, fun v y => Data.noConfusion y⟩
theorem EnRg.move (z : EnRg lo c n e it i h) (k : ∀ b, b = e ∨ b = it → ∀ o, h.get? b = some o → h'.get? b = some o) : EnRg lo c n e it i h' := by
  obtain ⟨⟨old, z1⟩, z2, z3⟩ := z
  exact ⟨⟨old, k e (.inl rfl) _ z1⟩, k it (.inr rfl) _ z2, z3⟩
end
theorem turn_enr {P : PySem.Program} {w : World} {K : PySem.W.Frag} {elts : List Expr} {kk : Nat} {tpos : Pos} (lo c : Int) (n : Nat) (e it : Addr) : Turn P w K (.Tuple elts kk tpos) (Ier lo c n) [e, it] e (EnRg lo c n e it) := by
  refine ⟨List.mem_cons_self, fun i h z b hb => ?_, fun i h h' z k => z.move fun b hb o q => k b (by rcases hb with rfl | rfl <;> simp) o q, ?_, ?_, fun A i s Q E z q => ?_⟩
  · rcases two_mem hb with rfl | rfl
    · exact z.objs.1
    · exact z.objs.2
  · rintro X rfl rfl rfl hc i pins s σ H E I aside z few
    have few : i < n := few
    obtain ⟨⟨old, isE⟩, isI, net⟩ := id z
    have old_e := Heap.lt_size isE
    have old_it : it < s.heap.objs.size := Heap.lt_size isI
    have drawn := drawsC (prog := X.prog) (w := X.w) (A := X.A.in1) (show X.A.in1.handled = none from I.ok.hd hc) it lo c n
    refine wpAny_pyNext_enum_itemD drawn isE isI few net (fun y => ?_) fun y h1 tk hy out st1 new1 _ kept1 => ?_
    · exact net (by simpa using y)
    obtain ⟨ty, rfl⟩ := hy
    refine ⟨_, rfl, wpAny_letOwnedTupleGo_enum (s := { s with heap := h1, toks := tk + 1 }) out fun h2 isE2 same2 => ?_⟩
    have pair : h2.get? s.heap.objs.size = some { cls := .type "tuple", data := .seq #[.int i tk, .int (lo + (i : Nat) * c) ty] } := by rw [same2.2 _ (Nat.ne_of_gt old_e)]; exact new1
    have I2 : Inv X pins σ (upd H s.heap.objs.size (.tup [.int (i : Nat), .int (lo + (i : Nat) * c)])) { s with heap := h2, toks := tk + 1 } := by
      refine I.turnedNew (ch := [e, it]) (fun b o nb q => ?_) aside (Nat.le_refl _) ⟨by show 2 ≤ sizeLine; decide, _, .cons ⟨tk, rfl⟩ (.cons ⟨ty, rfl⟩ .nil), _, pair, rfl, _, rfl⟩
      have n1 : b ≠ e := fun y => nb (by rw [y]; exact List.mem_cons_self)
      have n2 : b ≠ it := fun y => nb (by rw [y]; exact List.mem_cons_of_mem _ List.mem_cons_self)
      rw [same2.2 b n1]
      exact kept1 b o n1 n2 q
    refine ⟨.ref s.heap.objs.size, _, I2, rfl, ⟨_, rfl, I.hok.fresh (Nat.le_refl _), rfl⟩, ⟨⟨.int (lo + (i : Nat) * c) ty, ?_⟩, ?_, net⟩, fun b hb => ?_⟩
    · rw [Int.natCast_add, Int.natCast_one]
      exact isE2
    · show h2.get? it = _
      rw [same2.2 it net.symm]
      exact st1
    · have lt : b < s.heap.objs.size := by
        rcases two_mem hb with rfl | rfl
        · exact old_e
        · exact old_it
      rw [upd_ne (Nat.ne_of_lt lt)]
      exact (aside b hb).1
  · rintro X rfl rfl rfl hc i pins s σ H E I aside z hx
    obtain rfl : i = n := hx
    obtain ⟨⟨old, isE⟩, isI, _⟩ := z
    have drawn := drawsC (prog := X.prog) (w := X.w) (A := X.A.in1) (show X.A.in1.handled = none from I.ok.hd hc) it lo c i
    obtain ⟨free, nl, nf, mine, cells, pinned⟩ := aside it (List.mem_cons_of_mem _ List.mem_cons_self)
    exact wpAny_pyNext_enum_endD drawn isE isI fun h1 ext => ⟨rfl, I.turned (t' := s.toks) (fun b o nb q => ext b o nb q) free nl mine cells pinned⟩
  · obtain ⟨⟨old, isE⟩, _⟩ := z
    exact wpAny_pyIter_enum isE q
def iEnR (ta : TA) : TI := fun σ H R => ta σ H fun vs H1 => ∃ (i j c : Int) (n : Nat), vs = [.int i, .int j, .int c] ∧ RgC i j c n ∧ R (Ier i c n) H1
theorem pi_enumR {X : Cx} {a b d : Expr} {ta : TA} {p pos q pos2 tpos : Pos} {elts : List Expr} {kk : Nat} (hg : Gl X "enumerate") (hm : X.mg "enumerate" = none) (hg2 : Gl X "range") (hm2 : X.mg "range" = none) (ha : PA X [a, b, d] ta)
    (hs : starEach [Expr.Call (.Name "range" q) [a, b, d] [] pos2] X.env = [(false, eval (Expr.Call (.Name "range" q) [a, b, d] [] pos2) X.env)] := by rfl)
    (hs2 : starEach [a, b, d] X.env = (false, eval a X.env) :: starEach [b, d] X.env := by rfl) (hpl : (backTo pos2 (starEach [b, d] X.env)).any (·.1) = false := by rfl) :
    PI X (.Tuple elts kk tpos) (.Call (.Name "enumerate" p) [.Call (.Name "range" q) [a, b, d] [] pos2] [] pos) (iEnR ta) where
  run pins s σ H R I h := by
    refine Call_ (ld_blt I hg hm boot_enumerate (PyProof.Rows.callWith_type1 ?_ hs rfl))
    rw [hs]
    show wpAny _ _ (spliced ((false, eval (Expr.Call (.Name "range" q) [a, b, d] [] pos2) X.env) :: [])) _ _ s
    refine Calls.spliced_cons ?_
    refine Call_ (ld_blt I hg2 hm2 boot_range (PyProof.Rows.callWith_type1 (thn (ha.run pos2 pins s σ H _ I h) fun us s1 ⟨vs, H1, I1, r1, q1⟩ => ?_) hs2 hpl))
    obtain ⟨i, j, k, n, e, ⟨c0, c1, c2, c3⟩, q⟩ := q1
    subst e
    cases r1 with
    | cons r rr =>
      cases rr with
      | cons r' rr =>
        cases rr with
        | cons r'' rr =>
          cases rr
          obtain ⟨t, rfl⟩ := r
          obtain ⟨t', rfl⟩ := r'
          obtain ⟨t'', rfl⟩ := r''
          refine call_range_3 c0 ?_ (.inl (PyProof.noPylong_small c1))
          refine Calls.spliced_nil ?_
          refine call_enr c2 (IsRange.new ..) (wpAny_pyIter_enum enr_en ?_)
          obtain ⟨h1, eh⟩ : ∃ h1, h1 = s1.heap.push { cls := .type "range", data := .fields #[.int i t, .int j t', .int k t''] } := ⟨_, rfl⟩
          rw [← eh]
          have I2 : Inv X pins σ H1 { s1 with heap := enrHeap h1 i (Builtin.Range.rangeSize i j k) k } := I1.kept (t' := s1.toks) fun b o e => enr_old (by rw [eh]; exact Heap.get?_push_of_some _ e)
          have hz : h1.objs.size = s1.heap.objs.size + 1 := by rw [eh, Heap.size_push]
          refine ⟨_, [h1.objs.size + 1, h1.objs.size], _, _, H1, rfl, I2, turn_enr i k n _ h1.objs.size, ⟨⟨_, enr_en⟩, ?_, Nat.succ_ne_self _⟩, fun b hb => ?_, q⟩
          · have e1 : i + ((0 : Nat) : Int) * k = i := by simp
            have e2 : (n : Int) - ((0 : Nat) : Int) = Builtin.Range.rangeSize i j k := by rw [c3]; simp
            show IsRangeIter _ _ (i + ((0 : Nat) : Int) * k) ((n : Int) - ((0 : Nat) : Int)) k
            rw [e1, e2]
            exact enr_it
          · have ge : s1.heap.objs.size ≤ b := by
              rcases two_mem hb with rfl | rfl
              · omega
              · omega
            exact I1.fpOk ge (I1.hok.fresh ge)
theorem walk_enr {lo c : Int} {n : Nat} : Walk (Ier lo c n) n (fun _ => True) (YPair (fun i => some (.int (i : Nat))) (fun i => some (.int (lo + (i : Nat) * c)))) where
  goes i H lt q := lt
  stops H q := rfl
  yields i H v H' _ q := fun ⟨T, e1, e2, e3⟩ => ⟨T, .int (i : Nat), _, e1, e2, e3, rfl, rfl⟩
end Z
namespace Z
open PySem PySem.Spec PyProof.Rows L2
/-- enumerate of a list or a tuple -/
@[irreducible] def iEnumA (K : PySem.W.Frag) (ta : TA) : TI := fun σ H R => ta σ H fun vs H1 => ∃ a xs, vs = [.ref a] ∧ ((SqL K H1 a xs ∧ R (Ite K a) H1) ∨ (SqT K H1 a xs ∧ R (Iet K a) H1))
theorem pi_enumA {X : Cx} {e : Expr} {ta : TA} {p pos tpos : Pos} {elts : List Expr} {kk : Nat} (hg : Gl X "enumerate") (hm : X.mg "enumerate" = none) (ha : PA X [e] ta) (hs : starEach [e] X.env = [(false, eval e X.env)] := by rfl) :
    PI X (.Tuple elts kk tpos) (.Call (.Name "enumerate" p) [e] [] pos) (iEnumA X.K ta) where
  run pins s σ H R I h := by
    unfold iEnumA at h
    refine Call_ (ld_blt I hg hm boot_enumerate (PyProof.Rows.callWith_type1 (thn (ha.run pos pins s σ H _ I h) fun us s1 got => ?_) hs rfl))
    obtain ⟨vs, H1, I1, rel, a, xs, rfl, q⟩ := got
    match us, rel with
    | [_], .cons rel .nil =>
      cases rel
      rcases q with ⟨hq, q⟩ | ⟨hq, q⟩
      · obtain ⟨its, rv, p', hz⟩ := I1.list hq
        refine call_enumerate_list p'.isList fun h' he hit hsz hk => wpAny_pyIter_enum he ?_
        have I2 : Inv X pins σ H1 { s1 with heap := h' } := I1.kept (t' := s1.toks) hk
        refine ⟨s1.heap.objs.size + 1, [s1.heap.objs.size + 1, s1.heap.objs.size], _, _, H1, rfl, I2, turn_enum a (s1.heap.objs.size + 1) s1.heap.objs.size, ⟨⟨.none, he⟩, hit, Nat.succ_ne_self _⟩, fun b hb => ?_, q⟩
        have ge : s1.heap.objs.size ≤ b := by
          rcases two_mem hb with rfl | rfl
          · exact Nat.le_succ _
          · exact Nat.le_refl _
        exact I1.fpOk ge (I1.hok.fresh ge)
      · obtain ⟨its, _, isT, _⟩ := I1.tuple hq
        refine call_enu (show s1.heap.IsTuple a its.toArray from isT) (wpAny_pyIter_enum enu_en ?_)
        have I2 : Inv X pins σ H1 { s1 with heap := enuHeap s1.heap a } := I1.kept (t' := s1.toks) fun b o e => enu_old e
        refine ⟨_, [s1.heap.objs.size + 1, s1.heap.objs.size], _, _, H1, rfl, I2, turn_enu a _ s1.heap.objs.size, ⟨⟨_, enu_en⟩, enu_it, Nat.succ_ne_self _⟩, fun b hb => ?_, q⟩
        have ge : s1.heap.objs.size ≤ b := by
          rcases two_mem hb with rfl | rfl
          · exact Nat.le_succ _
          · exact Nat.le_refl _
        exact I1.fpOk ge (I1.hok.fresh ge)
theorem Walk.of_eq {J : It} {n : Nat} {G : Hp → Prop} {Y : Nat → Hp → V → Hp → Prop} (w : Walk J n G Y) {G' : Hp → Prop} (g : ∀ H, G' H → G H) : Walk J n G' Y :=
  ⟨fun i H lt q => w.goes i H lt (g H q), fun H q => w.stops H (g H q), fun i H v H' lt q y => w.yields i H v H' lt (g H q) y⟩
theorem enumA_of {K : PySem.W.Frag} {ta : TA} {σ : L2.St} {H H1 : Hp} {R : It → Hp → Prop} {a : Addr} {xs : List V} (h : ∀ Q : List V → Hp → Prop, Q [.ref a] H1 → ta σ H Q) (e : H1 a = some (.lst xs) ∨ H1 a = some (.tup xs))
    (k : ∀ J, Walk J xs.length (fun H' => H' a = H1 a) (YPair (fun i => some (.int (i : Nat))) (fun i => xs[i]?)) → R J H1) : iEnumA K ta σ H R := by
  unfold iEnumA
  refine h _ ⟨a, xs, rfl, ?_⟩
  rcases e with e | e
  · exact .inl ⟨SqL.of e, k _ (Walk.of_eq walk_enum fun H' q => SqL.of (by rw [q]; exact e))⟩
  · exact .inr ⟨SqT.of e, k _ (Walk.of_eq walk_enumT fun H' q => SqT.of (by rw [q]; exact e))⟩
end Z
set_option maxHeartbeats 4000000
namespace K01
open PySem PySem.Spec PyProof.Rows L2 Z
def bls (v : List Bool) : List V := v.map V.bl
theorem dpAll_bls {K : PySem.W.Frag} {H : Hp} : ∀ v : List Bool, DpAll K H (bls v) (v.map PyData.bool)
  | [] => .nil
  | b :: v => .cons (.bl b) (dpAll_bls v)
theorem canLay_bls : ∀ v : List Bool, PyData.canLayAll0 (v.map PyData.bool) = true
  | [] => by simp [PyData.canLayAll0]
  | _ :: v => by simp [PyData.canLayAll0, PyData.canLay0, canLay_bls v]
theorem depth_bls : ∀ v : List Bool, PyData.depthAll (v.map PyData.bool) = 0
  | [] => by simp [PyData.depthAll]
  | _ :: v => by simp [PyData.depthAll, PyData.depth, depth_bls v]
theorem shaped_bls (v : List Bool) : SeqAt.shaped (.list (v.map PyData.bool)) = true := by
  simp [SeqAt.shaped, PyData.canLay0, canLay_bls, PyData.depth, depth_bls]
theorem eqvAll_bls : ∀ u v : List Bool, PyData.eqvAll (u.map PyData.bool) (v.map PyData.bool) = decide (u = v)
  | [], [] => by simp [PyData.eqvAll]
  | [], _ :: _ => by simp [PyData.eqvAll]
  | _ :: _, [] => by simp [PyData.eqvAll]
  | a :: u, b :: v => by
    have := eqvAll_bls u v
    cases a <;> cases b <;> simp [PyData.eqvAll, PyData.eqv, this]
theorem eqv_bls (u v : List Bool) : PyData.eqv (.list (u.map PyData.bool)) (.list (v.map PyData.bool)) = decide (u = v) := by
  rw [← eqvAll_bls u v]
  simp [PyData.eqv]
def spShort : Sp := fun vs H Q _ => ∃ (l : Addr) (v : List Bool), vs = [.ref l] ∧ H l = some (.lst (bls v)) ∧ v ≠ [] ∧ v.length ≤ 6 ∧ ∀ t H', Same H H' → H' t = some (.tup (bls (ZA.sh v))) → Q (.ref t) H'
section
variable {P : Program} {w : World} {K : PySem.W.Frag} {mg : Str → Option Value} {base : Heap}
theorem sc_shortest : FnScope ["wanted", "many", "part"] ["wanted"] (defScope s_shortest) := ⟨rfl, rfl, rfl, by decide +kernel, rfl, by decide +kernel, by decide +kernel⟩
theorem ok_shortest {f : Addr} {fd : FuncData} (F : FnP K "shortest" s_shortest f fd) (T : Nb mg) : FnOk P w K mg base CX0 1 f fd ["wanted"] spShort := by
  refine F.ok sc_shortest (fun vs H Q E h => ?_) (fun cdv A outer s H vs Q E hr h => ?_)
  · obtain ⟨l, v, rfl, _⟩ := h
    rfl
  · obtain ⟨l, v, rfl, hl, hv, h6, q⟩ := h
    have l1 := List.length_pos_iff.mpr hv
    refine ⟨_, PSs.nox (pss_cons (ps_set (i := 1) sc_shortest.nd rfl (Or.inl rfl) (pe_callB (call_lenA (K := K) rfl) (by rfl) T.len PySem.boot_len (pa_cons (pv 0) pa_nil)))
      (pss_cons (ps_for PassesOwn.never rfl (pi_range2 (by rfl) T.range (pa_cons pe_int (pa_cons (pv 1) pa_nil))) (pg_name (i := 2) sc_shortest.nd rfl (.inl rfl)) (pss_one (ps_if (PW.pt (pw_and (pt_cmpR op_eq (pe_op op_modN (pv 1) (pv 2)) pe_int (nomark _)) (pw_and1 (pt_cmpR (op_eqD hr.units) (pv 0) (pe_op op_rep (pe_slice sl_list (pv 0) po_none (po_some (pv 2))) (pe_op op_fdivN (pv 1) (pv 2))) (nomark _))))) (pss_one (ps_ret (pe_callTy call_tuple_of (by rfl) T.tuple (by decide +kernel) (pa_cons (pe_slice sl_list (pv 0) po_none (po_some (pv 2))) pa_nil)))) pss_nil)))
      (pss_one (ps_ret (pe_callTy call_tuple_of (by rfl) T.tuple (by decide +kernel) (pa_cons (pv 0) pa_nil)))))), ?_⟩
    refine ⟨_, rfl, l, _, rfl, (Sq.any (.inl hl)), ?_⟩
    rw [show (bls v).length = v.length from List.length_map _]
    refine normG (σ' := [some (.ref l), some (.int (v.length : Nat)), none]) rfl ?_
    refine ⟨_, rfl, 1, v.length, rfl, ⟨by decide, by decide, by omega, by omega⟩, ?_⟩
    rw [show ((v.length : Int) - 1).toNat = v.length - 1 from by omega]
    refine for_it (walk_range (lo := 1) (n := v.length - 1)) (fun i σ H' => (∃ o, σ = [some (.ref l), some (.int (v.length : Nat)), o]) ∧ Same H H' ∧ ZA.sh v = ZA.shF v (1 + i) (v.length - 1 - i)) ⟨⟨_, rfl⟩, Same.refl _, rfl⟩ (fun _ _ _ _ _ => trivial) ?_ ?_
    · rintro i x σ H2 H3 hi ⟨⟨o, rfl⟩, s2, e2⟩ ⟨rfl, rfl⟩
      refine normG (σ' := [some (.ref l), some (.int (v.length : Nat)), some (.int (1 + i : Nat))]) (by simp) ?_
      have ne0 : ((1 + i : Nat) : Int) ≠ 0 := by omega
      have fm : ((v.length : Nat) : Int).fmod ((1 + i : Nat) : Int) = ((v.length % (1 + i) : Nat) : Int) := by
        rw [Int.fmod_eq_emod_of_nonneg _ (by omega)]
        omega
      have fd' : ((v.length : Nat) : Int).fdiv ((1 + i : Nat) : Int) = ((v.length / (1 + i) : Nat) : Int) := by
        rw [Int.fdiv_eq_ediv_of_nonneg _ (by omega)]
        omega
      obtain ⟨kq, ek⟩ : ∃ kq, kq = v.length / (1 + i) := ⟨_, rfl⟩
      have kq6 : kq ≤ 6 := by
        rw [ek]
        exact Nat.le_trans (Nat.div_le_self _ _) h6
      have st := ZA.sh_step (v := v) (i := i) hi
      have eo := s2 _ _ hl
      refine ⟨_, rfl, _, rfl, _, _, rfl, rfl, ne0, rfl, _, rfl, ite2 (fun z => ?_) (fun z => ?_)⟩
      · have z : v.length % (1 + i) = 0 := by
          have := of_decide_eq_true z
          injection this with this
          omega
        refine ⟨_, rfl, _, rfl, _, rfl, _, rfl, l, bls v, rfl, SqL.of eo, fun p hp => ?_⟩
        have cu : cutV (bls v) none (some ((1 + i : Nat) : Int)) = bls (v.take (1 + i)) := by
          unfold cutV
          rw [HT.sIx_none, HT.sIx_nat]
          show List.take (min (1 + i) (bls v).length - 0) (bls v) = _
          rw [show (bls v).length = v.length from List.length_map _]
          show List.take (min (1 + i) v.length - 0) (v.map V.bl) = (v.take (1 + i)).map V.bl
          rw [show min (1 + i) v.length - 0 = 1 + i from by omega, List.map_take]
        rw [cu]
        have sp := same_new (o := .lst (bls (v.take (1 + i)))) (Same.refl H3) hp
        refine ⟨_, rfl, _, rfl, _, _, rfl, rfl, ⟨ne0, by omega⟩, p, _, _, rfl, rfl, upd_same, ?_, ?_, ?_, fun p2 hp2 => ?_⟩
        · rw [fd', ← ek]
          omega
        · rw [fd', ← ek]
          omega
        · rw [fd', ← ek]
          refine szM _ ?_
          rw [Int.toNat_natCast]
          have l2 : (bls (v.take (1 + i))).length ≤ 6 := by
            rw [show (bls (v.take (1 + i))).length = _ from List.length_map _, List.length_take]
            omega
          exact Nat.le_trans (Nat.mul_le_mul l2 kq6) (by decide)
        · rw [fd', Int.toNat_natCast]
          have eb : (List.replicate (v.length / (1 + i)) (bls (v.take (1 + i)))).flatten = bls (List.replicate (v.length / (1 + i)) (v.take (1 + i))).flatten := by
            unfold bls
            rw [List.map_flatten, List.map_replicate]
          rw [eb]
          have sp2 := same_new (o := .lst (bls (List.replicate (v.length / (1 + i)) (v.take (1 + i))).flatten)) sp hp2
          refine ⟨_, _, .lst (SqL.of (sp2 _ _ eo)) (dpAll_bls _), .lst (SqL.of upd_same) (dpAll_bls _), shaped_bls _, shaped_bls _, _, rfl, ?_⟩
          rw [eqv_bls]
          have eP : ZA.shP v (1 + i) = decide (v = (List.replicate (v.length / (1 + i)) (v.take (1 + i))).flatten) := by
            unfold ZA.shP
            rw [z]
            generalize (List.replicate (v.length / (1 + i)) (v.take (1 + i))).flatten = vv
            by_cases y : v = vv
            · rw [decide_eq_true y]
              simp [y]
            · rw [decide_eq_false y]
              simp [y]
          rw [← eP]
          refine ite2 (fun y => ?_) (fun y => ?_)
          · rw [if_pos y] at st
            refine ⟨_, rfl, _, rfl, _, rfl, l, bls v, rfl, SqL.of (sp2 _ _ eo), fun p3 hp3 => ?_⟩
            rw [cu]
            refine ⟨p3, _, rfl, .inl ⟨SqL.of upd_same, fun t ht => q t _ (same_new (same_new (s2.trans sp2) hp3) ht) ?_⟩⟩
            rw [upd_same, e2, st]
          · refine ⟨⟨_, rfl⟩, s2.trans sp2, ?_⟩
            rw [e2, st, if_neg y]
      · refine if_no rfl ⟨⟨_, rfl⟩, s2, ?_⟩
        have eP : ZA.shP v (1 + i) = false := by
          unfold ZA.shP
          have : ¬ v.length % (1 + i) = 0 := fun h => z (decide_eq_true (by show V.int (((v.length : Nat) : Int).fmod ((1 + i : Nat) : Int)) = V.int 0; rw [fm, h]; rfl))
          simp [this]
        rw [e2, st, eP]
        rfl
    · rintro σ H2 ⟨⟨o, rfl⟩, s2, e2⟩
      rw [ZA.sh_end] at e2
      refine ⟨_, rfl, l, _, rfl, .inl ⟨SqL.of (s2 _ _ hl), fun t ht => q t _ (same_new s2 ht) ?_⟩⟩
      rw [upd_same, e2]
end
end K01
set_option maxHeartbeats 4000000
namespace K01
open PySem PySem.Spec PyProof.Rows L2 Z
def restK (x : List Bool) : NestedKey := .tup (x.map fun b => .num (if b = true then 1 else 0))
def restRp (H : Hp) (x : List Bool) (v : V) : Prop := ∃ t, v = .ref t ∧ H t = some (.tup (bls x))
theorem rest_nvs {H : Hp} : ∀ x : List Bool, MixD.NVs H (x.map fun b => .num (if b = true then 1 else 0)) (bls x)
  | [] => .nil
  | b :: x => .cons (.bl rfl) (rest_nvs x)
theorem rest_inj : ∀ a b : List Bool, (a.map fun b => NestedKey.num (if b = true then 1 else 0)) = (b.map fun b => NestedKey.num (if b = true then 1 else 0)) → a = b
  | [], [], _ => rfl
  | [], _ :: _, h => by cases h
  | _ :: _, [], h => by cases h
  | a :: x, b :: y, h => by
    rw [List.map_cons, List.map_cons] at h
    injection h with h1 h2
    rw [rest_inj x y h2]
    injection h1 with h1
    cases a <;> cases b <;> simp at h1 ⊢
theorem rest_dep : ∀ x : List Bool, NestedKey.depthAll (x.map fun b => NestedKey.num (if b = true then 1 else 0)) = 0
  | [] => by simp [NestedKey.depthAll]
  | b :: x => by
    have := rest_dep x
    simp only [List.map_cons, NestedKey.depthAll, NestedKey.depth, this]
    rfl
theorem rest_rep : Rep restK restRp where
  inj := fun a b h => by
    injection h with h
    exact rest_inj a b h
  same := fun H H' x v s ⟨t, e, ht⟩ => ⟨t, e, s _ _ ht⟩
  nv := fun H x v ⟨t, e, ht⟩ => by
    rw [e]
    exact .tup ht (rest_nvs x)
  dep := fun x => by
    show (NestedKey.tup _).depth ≤ 8
    simp only [NestedKey.depth, rest_dep]
    decide
  up := fun {H H' x v} s ⟨t, e, ht⟩ => ⟨t, e, s _ _ ht⟩
def nm_rest_machine (l _c : Nat) : Str := if l = 200 then "rest_machine.<locals>.follow" else "rest_machine.<locals>.<lambda>"
def nst_rest : Stmt := (defBody s_rest_machine).getD 5 (.Pass ⟨0, 0, 0, 0⟩)
abbrev nscope_rest : Scope := C8.fnScope nst_rest
theorem nsc_rest : FnScope ["wanted", "digits", "many", "rest"] ["wanted", "digits"] nscope_rest := ⟨rfl, rfl, rfl, by decide +kernel, rfl, by decide +kernel, by decide +kernel⟩
def bRestE : Expr := match (defBody s_rest_machine).getD 7 (.Pass ⟨0, 0, 0, 0⟩) with
  | .Return (some (.Call _ [_, _, _, .Lambda _ b _ _] _ _)) _ => b
  | _ => .Constant .none 0 ⟨0, 0, 0, 0⟩
def aRestE : Arguments := match (defBody s_rest_machine).getD 7 (.Pass ⟨0, 0, 0, 0⟩) with
  | .Return (some (.Call _ [_, _, _, .Lambda a _ _ _] _ _)) _ => a
  | _ => ⟨[], [], none, [], [], none, []⟩
def nscope_restE : Scope := match (defBody s_rest_machine).getD 7 (.Pass ⟨0, 0, 0, 0⟩) with
  | .Return (some (.Call _ [_, _, _, .Lambda _ _ s _] _ _)) _ => s
  | _ => ⟨.function, [], false, false, []⟩
theorem nsc_restE : NdefX.NScope ["wanted"] ["wanted"] [] nscope_restE := NdefX.nscope_by (by decide +kernel)
/-- one step, by the digits' sum -/
def rfn (x : List Bool) (d : Int) : List Bool := if x.length = 1 then x else if x.length % 2 = 1 then ZA.oddR x d else ZA.sh (ZA.evenR x d)
def spRF : Sp := fun vs H Q _ => ∃ (x : List Bool) (v : V) (d : Int), vs = [v, .int d] ∧ restRp H x v ∧ 1 ≤ x.length ∧ x.length ≤ 6 ∧ ∀ v' H', Same H H' → restRp H' (rfn x d) v' → Q v' H'
def spRE : List (Option V) → Sp := fun _ vs H Q _ => ∃ (x : List Bool) (v : V), vs = [v] ∧ restRp H x v ∧ 1 ≤ x.length ∧ Q (.bl (ZA.atR x 0)) H
section
variable {P : Program} {w : World} {K : PySem.W.Frag} {mg : Str → Option Value} {base : Heap}
theorem clo_rest (T : Nb mg) (dShortest : Dn P w K mg base 1 "shortest" ["wanted"] spShort) (f c : Addr) (q : Str) : CloOk P w K mg base CX0 2 (cloN f ⟨"follow", q, C8.fnArgs nst_rest, C8.fnBody nst_rest, nscope_rest, [], c⟩ [] []) spRF := by
  refine clo_c (N := ["wanted", "digits", "many", "rest"]) (ps := ["wanted", "digits"]) nsc_rest (fun doc pm ctv us h => ?_) (fun vs H Q E h => ?_) (fun A outer s H vs Q E hr h => ?_)
  · match us, h with
    | [a, b], _ => rfl
  · obtain ⟨x, v, d, rfl, _⟩ := h
    rfl
  · obtain ⟨x, v, d, rfl, ⟨t, ev, ht⟩, x1, x6, k⟩ := h
    subst ev
    refine ⟨_, PSs.nox (pss_cons (ps_set (i := 2) nsc_rest.nd rfl (Or.inr rfl) (pe_callB (call_lenA (K := K) rfl) (by rfl) T.len PySem.boot_len (pa_cons (pv 0) pa_nil)))
      (pss_cons (ps_if (pt_cmpR op_eq (pv 2) pe_int (nomark _)) (pss_one (ps_ret (pv 0))) pss_nil)
      (pss_cons (ps_if (pt_cmpR op_eq (pe_op op_modN (pv 2) pe_int) pe_int (nomark _)) (pss_one (ps_ret (pe_callTy call_tuple_of (by rfl) T.tuple (by decide +kernel) (pa_cons (pe_lc (own := [("rest", 3)]) (g := gName 3) (tt := tYes) rfl nsc_rest.nd (pi_range1 (by rfl) T.range (pa_cons (pv 2) pa_nil)) (blkOk_by (N := ["wanted", "digits", "many", "rest"]) (sc := nscope_rest) (by decide +kernel)) (fun _ _ _ _ _ => (pg_name (i := 3) nsc_rest.nd rfl (.inl rfl))) (fun _ _ _ _ _ => pts_nil) (fun _ _ _ _ _ => (pe_ix (ix_anyK (K := K) rfl) (pv 0) (pe_op op_modN (pe_op op_add (pv 1) (pe_op op_mul pe_int (pv 3))) (pv 2)) (fun _ _ => rfl)))) pa_nil)))) pss_nil)
      (pss_one (ps_ret (pe_dn dShortest hr (pa_cons (pe_lc (own := [("rest", 3)]) (g := gName 3) (tt := tYes) rfl nsc_rest.nd (pi_range1 (by rfl) T.range (pa_cons (pe_op op_fdivN (pv 2) pe_int) pa_nil)) (blkOk_by (N := ["wanted", "digits", "many", "rest"]) (sc := nscope_rest) (by decide +kernel)) (fun _ _ _ _ _ => (pg_name (i := 3) nsc_rest.nd rfl (.inl rfl))) (fun _ _ _ _ _ => pts_nil) (fun _ _ _ _ _ => (pe_ix (ix_anyK (K := K) rfl) (pv 0) (pe_op op_modN (pe_op op_add (pv 1) (pe_op op_mul pe_int (pv 3))) (pv 2)) (fun _ _ => rfl)))) pa_nil))))))), ?_⟩
    have hx : x ≠ [] := List.length_pos_iff.mp x1
    refine ⟨_, rfl, t, _, rfl, .inr (SqT.of ht), ?_⟩
    rw [show (bls x).length = x.length from List.length_map _]
    refine normG (σ' := [some (.ref t), some (.int d), some (.int (x.length : Nat)), none]) rfl ?_
    have f2 : ((x.length : Nat) : Int).fmod 2 = ((x.length % 2 : Nat) : Int) := by
      rw [Int.fmod_eq_emod_of_nonneg _ (by decide)]
      omega
    have d2 : ((x.length : Nat) : Int).fdiv 2 = ((x.length / 2 : Nat) : Int) := by
      rw [Int.fdiv_eq_ediv_of_nonneg _ (by decide)]
      omega
    have comp : ∀ (i : Nat), ∃ j : Nat, (d + 2 * (0 + (i : Int))).fmod (x.length : Nat) = (j : Int) ∧ (bls x)[j]? = some (V.bl (ZA.atR x (d + 2 * (i : Int)))) := fun i => by
      have p := Int.emod_nonneg (d + 2 * (i : Int)) (b := ((x.length : Nat) : Int)) (by omega)
      have p2 := Int.emod_lt_of_pos (d + 2 * (i : Int)) (b := ((x.length : Nat) : Int)) (by omega)
      refine ⟨((d + 2 * (i : Int)) % ((x.length : Nat) : Int)).toNat, ?_, ?_⟩
      · rw [Int.fmod_eq_emod_of_nonneg _ (by omega), Int.zero_add]
        omega
      · unfold ZA.atR bls
        rw [List.getElem?_map, List.getElem?_eq_getElem (by omega), List.getD_eq_getElem?_getD, List.getElem?_eq_getElem (by omega)]
        rfl
    refine ⟨_, rfl, rfl, _, rfl, ite2 (fun z => ?_) (fun z => ?_)⟩
    · have z : x.length = 1 := by
        have := of_decide_eq_true z
        injection this with this
        omega
      refine ⟨_, rfl, k _ _ (Same.refl _) ?_⟩
      have : rfn x d = x := if_pos z
      rw [this]
      exact ⟨t, rfl, ht⟩
    · have z : ¬ x.length = 1 := fun h => z (decide_eq_true (by rw [h]; rfl))
      have er : rfn x d = if x.length % 2 = 1 then ZA.oddR x d else ZA.sh (ZA.evenR x d) := if_neg z
      rw [er] at k
      refine un_next ⟨_, rfl, _, _, rfl, rfl, (by show (2 : Int) ≠ 0; decide), rfl, _, rfl, ite2 (fun y => ?_) (fun y => ?_)⟩
      · have y : x.length % 2 = 1 := by
          have := of_decide_eq_true y
          injection this with this
          omega
        rw [if_pos y] at k
        refine ⟨_, rfl, _, rfl, (by omega), (by omega), ?_⟩
        intro D hD
        refine lc_all walk_range hD (by omega) (fun i y _ => y = V.bl (ZA.atR x (d + 2 * (i : Int)))) (fun _ _ _ _ _ h => h) (fun _ _ => trivial) ?_ ?_
        · rintro i xx H5 H6 R N zs hi s5 eD ⟨rfl, rfl⟩ k5
          obtain ⟨j, ej, hj⟩ := comp i
          refine ⟨rfl, yes_to ⟨_, rfl, _, rfl, _, rfl, _, _, rfl, rfl, .inl ⟨by decide, by decide⟩, _, _, rfl, rfl, _, rfl, _, _, rfl, rfl, (by omega), t, bls x, _, V.bl (ZA.atR x (d + 2 * (i : Int))), rfl, rfl, .inr (SqT.of ((s5.trans (Same.refl _)) _ _ ht)), ?_, k5 _ _ (Same.refl _) rfl⟩⟩
          rw [ej]
          exact atN hj
        · intro ys H5 ly py s5 eD
          have eys : ys = bls (ZA.oddR x d) := by
            unfold bls ZA.oddR
            rw [List.map_map]
            exact list_is ly py
          rw [eys] at eD
          exact ⟨D, _, rfl, .inl ⟨SqL.of eD, fun t2 ht2 => k _ _ (same_new s5 ht2) ⟨t2, rfl, upd_same⟩⟩⟩
      · have y : ¬ x.length % 2 = 1 := fun h => y (decide_eq_true (by show V.int (((x.length : Nat) : Int).fmod 2) = V.int 1; rw [f2, h]; rfl))
        rw [if_neg y] at k
        refine un_next ?_
        refine ⟨_, rfl, _, _, rfl, rfl, ⟨by decide, by decide⟩, _, rfl, ?_, ?_, ?_⟩
        · rw [d2]
          omega
        · rw [d2]
          omega
        intro D hD
        rw [d2, Int.toNat_natCast]
        refine lc_all walk_range hD (by omega) (fun i y _ => y = V.bl (ZA.atR x (d + 2 * (i : Int)))) (fun _ _ _ _ _ h => h) (fun _ _ => trivial) ?_ ?_
        · rintro i xx H5 H6 R N zs hi s5 eD ⟨rfl, rfl⟩ k5
          obtain ⟨j, ej, hj⟩ := comp i
          refine ⟨rfl, yes_to ⟨_, rfl, _, rfl, _, rfl, _, _, rfl, rfl, .inl ⟨by decide, by decide⟩, _, _, rfl, rfl, _, rfl, _, _, rfl, rfl, (by omega), t, bls x, _, V.bl (ZA.atR x (d + 2 * (i : Int))), rfl, rfl, .inr (SqT.of ((s5.trans (Same.refl _)) _ _ ht)), ?_, k5 _ _ (Same.refl _) rfl⟩⟩
          rw [ej]
          exact atN hj
        · intro ys H5 ly py s5 eD
          have eys : ys = bls (ZA.evenR x d) := by
            unfold bls ZA.evenR
            rw [List.map_map]
            exact list_is ly py
          rw [eys] at eD
          have le : (ZA.evenR x d).length = x.length / 2 := by simp [ZA.evenR]
          refine ⟨D, _, rfl, eD, fun h => ?_, by omega, fun t2 H7 s7 ht2 => k _ _ (s5.trans s7) ⟨t2, rfl, ht2⟩⟩
          rw [h] at le
          simp at le
          omega
theorem clo_restE (f c : Addr) (q : Str) : CloOk P w K mg base CX0 1 (cloL f ⟨"<lambda>", q, aRestE, [], nscope_restE, [], c⟩ bRestE [] []) (spRE []) := by
  refine clo_l (N := ["wanted"]) (ps := ["wanted"]) (fr := []) (sp := spRE) (ws := []) nsc_restE (fun pm ctv us h => ?_) (fun ws vs H Q E h => ?_) (fun A outer s H vs Q E hr h => ?_)
  · match us, h with
    | [a], _ => rfl
  · obtain ⟨x, v, rfl, _⟩ := h
    rfl
  · obtain ⟨x, v, rfl, ⟨t, ev, ht⟩, x1, k⟩ := h
    subst ev
    refine ⟨_, (pe_ix (ix_anyK (K := K) rfl) (pv 0) pe_int (fun _ _ => rfl)), ?_⟩
    refine ⟨_, rfl, t, _, _, _, rfl, rfl, .inr (SqT.of ht), (?_ : atI (bls x) ((0 : Nat) : Int) = some (V.bl (ZA.atR x 0))), k⟩
    refine atN ?_
    unfold ZA.atR bls
    rw [List.getElem?_map, Int.zero_emod, List.getElem?_eq_getElem (by omega), List.getD_eq_getElem?_getD]
    show _ = some (V.bl (x[0]?.getD false))
    rw [List.getElem?_eq_getElem (by omega)]
    rfl
end
end K01
set_option maxHeartbeats 4000000
namespace K01
open PySem PySem.Spec PyProof.Rows L2 Z
theorem rgc_small : ∀ c ∈ List.range 7, ∀ q ∈ List.range 7, 1 ≤ c → 1 ≤ q → c * q ≤ 6 → Builtin.Range.small 0 ((c * q : Nat) : Int) (c : Int) = true ∧ Builtin.Range.rangeSize 0 ((c * q : Nat) : Int) (c : Int) = q := by decide +kernel
theorem rgc {c q : Nat} (h1 : 1 ≤ c) (h2 : 1 ≤ q) (h6 : c * q ≤ 6) : RgC 0 ((c * q : Nat) : Int) (c : Int) q := by
  have a : c ≤ c * q := Nat.le_mul_of_pos_right _ h2
  have b : q ≤ c * q := Nat.le_mul_of_pos_left _ h1
  obtain ⟨x, y⟩ := rgc_small c (List.mem_range.mpr (by omega)) q (List.mem_range.mpr (by omega)) h1 h2 h6
  exact ⟨by omega, by omega, x, y⟩
theorem inV_int {n : Int} : ∀ {ns : List Int}, inV (.int n) (ns.map V.int) = decide (n ∈ ns)
  | [] => rfl
  | m :: ns => by
    have ih := inV_int (n := n) (ns := ns)
    unfold inV at ih ⊢
    have e2 : eqV (V.int m) (V.int n) = decide (m = n) := rfl
    rw [List.map_cons, List.any_cons, ih, e2]
    by_cases e : m = n
    · simp [e]
    · have : ¬ n = m := fun z => e z.symm
      simp [e, this]
theorem flat_int (ns : List Int) : (ns.map V.int).all flatV = true := by
  rw [List.all_map]
  exact List.all_eq_true.mpr fun _ _ => rfl
def spRestM (TS : List NdefX.NTab) : Sp := fun vs H Q _ => ∃ (fa ra : Addr) (fs rs : List Int) (m : Nat), vs = [.ref fa, .int (m : Nat), .ref ra] ∧ Sq H fa (fs.map V.int) ∧ Sq H ra (rs.map V.int) ∧ 1 ≤ fs.length ∧ fs.length ≤ 4 ∧ 1 ≤ m ∧ m ≤ 6 ∧ NdefX.TabsN TS H ∧
  ∀ v H' A, LamX.ExtN H H' → NdefX.TabsN TS H' → MaT H' v A → A.Ok → 0 < A.n → A.n ≤ 20 → A.w = 2 ^ fs.length → (∀ u, A.lang 0 u = decide (ZA.total (2 ^ fs.length) fs u % (m : Int) ∈ rs)) → Q v H'
section
variable {P : Program} {w : World} {K : PySem.W.Frag} {mg : Str → Option Value} {base : Heap}
theorem sc_rest_machine : FnScope ["factors", "m", "rests", "common", "factor", "wanted_at", "at", "rest", "first", "follow", "sums"] ["factors", "m", "rests"] (defScope s_rest_machine) := ⟨rfl, rfl, rfl, by decide +kernel, rfl, by decide +kernel, by decide +kernel⟩
theorem ok_restM {f c TT : Addr} {fd : FuncData} {TS : List NdefX.NTab} (F : FnP K "rest_machine" s_rest_machine f fd) (hcode : fd.code = .ref c) (Mk : MkN base mg TS nm_rest_machine c TT) (T : Nb mg) (hgcd : mg "gcd" = some (.builtin "math.gcd")) (dSums : Dn P w K mg base 1 "digit_sums" ["factors"] spSums) (dShortest : Dn P w K mg base 1 "shortest" ["wanted"] spShort) (dExplF : DnC P w K mg base 3 "explored_freely" ["first", "letters", "follow", "is_end"] (fun z => z.1.C) (spExplF P w K mg base)) (dOneM : Dn P w K mg base 4 "one_rest_machine" ["factors", "m", "rest"] (spOneM TS)) :
    FnOk P w K mg base CX0 5 f fd ["factors", "m", "rests"] (spRestM TS) := by
  refine okCode F hcode sc_rest_machine (fun vs H Q E h => ?_) (fun A outer s H vs Q E hr h => ?_)
  · obtain ⟨fa, ra, fs, rs, m, rfl, _⟩ := h
    rfl
  · obtain ⟨fa, ra, fs, rs, m, rfl, hf, hrs, l1, l4, hm1, hm2, tabs, k⟩ := h
    have TB := Mk.tb
    have hmT := Mk.mem
    have hmu := Mk.uni
    obtain ⟨Good, eG⟩ : ∃ Good : Clo × Clo → L2.St → Prop, Good = fun z σ => ∀ h H, z.1.C h H := ⟨_, rfl⟩
    have hCx : ∀ pins σ H1 s1 z, Inv (cxOf CX0 P w K mg base ["factors", "m", "rests", "common", "factor", "wanted_at", "at", "rest", "first", "follow", "sums"] "rest_machine" (defScope s_rest_machine) f (.ref c) A outer s H E).nox pins σ H1 s1 → Good z σ → z.1.C s1.heap H1 := fun pins σ H1 s1 z I g => by
      rw [eG] at g
      exact g _ _
    refine ⟨_, PSs.nox (pss_cons (ps_set (i := 3) sc_rest_machine.nd rfl (Or.inr rfl) (pv 1))
      (pss_cons (ps_for PassesOwn.never rfl (pi_anyK (K := K) rfl (pv 0)) (pg_name (i := 4) sc_rest_machine.nd rfl (.inl rfl)) (pss_one (ps_set (i := 3) sc_rest_machine.nd rfl (Or.inr rfl) (pe_callBfun cr_gcd (by rfl) hgcd (pa_cons (pv 3) (pa_cons (pv 4) pa_nil))))))
      (pss_cons (ps_setLc (i := 5) (own := [("at", 6), ("rest", 7)]) rfl sc_rest_machine.nd rfl rfl (sw_true rfl rfl rfl (by decide +kernel)) (pi_enumR (by rfl) T.enumerate (by rfl) T.range (pa_cons pe_int (pa_cons (pv 1) (pa_cons (pv 3) pa_nil)))) (blkOk_by (N := ["factors", "m", "rests", "common", "factor", "wanted_at", "at", "rest", "first", "follow", "sums"]) (sc := defScope s_rest_machine) (by decide +kernel)) (fun _ _ _ _ _ => (pg_tupK (K := K) (n := 2) rfl rfl (pgs_cons (pg_name (i := 6) sc_rest_machine.nd rfl (.inl rfl)) (pgs_cons (pg_name (i := 7) sc_rest_machine.nd rfl (.inl rfl)) pgs_nil)))) (fun _ _ _ _ _ => (pts_one (pt_cmpR (op_inK (K := K) rfl) (pv 7) (pv 2) (by with_unfolding_all rfl)))) (fun _ _ _ _ _ => (pv 6)))
      (pss_cons (ps_if (pt_cmpR op_eq (pe_callB (call_lenA (K := K) rfl) (by rfl) T.len PySem.boot_len (pa_cons (pv 5) pa_nil)) pe_int (nomark _)) (pss_one (ps_ret (pe_dn dOneM hr (pa_cons (pe_lc (own := [("factor", 4)]) (g := gName 4) (tt := tYes) rfl sc_rest_machine.nd (pi_anyK (K := K) rfl (pv 0)) (blkOk_by (N := ["factors", "m", "rests", "common", "factor", "wanted_at", "at", "rest", "first", "follow", "sums"]) (sc := defScope s_rest_machine) (by decide +kernel)) (fun _ _ _ _ _ => (pg_name (i := 4) sc_rest_machine.nd rfl (.inl rfl))) (fun _ _ _ _ _ => pts_nil) (fun _ _ _ _ _ => (pe_op op_fdivN (pv 4) (pv 3)))) (pa_cons (pe_op op_fdivN (pv 1) (pv 3)) (pa_cons (pe_ix (ix_anyK (K := K) rfl) (pv 5) pe_int (fun _ _ => rfl)) pa_nil)))))) pss_nil)
      (pss_cons (ps_set (i := 8) sc_rest_machine.nd rfl (Or.inl rfl) (pe_dn dShortest hr (pa_cons (pe_lc (own := [("rest", 7)]) (g := gName 7) (tt := tYes) rfl sc_rest_machine.nd (pi_range3 (by rfl) T.range (pa_cons pe_int (pa_cons (pv 1) (pa_cons (pv 3) pa_nil)))) (blkOk_by (N := ["factors", "m", "rests", "common", "factor", "wanted_at", "at", "rest", "first", "follow", "sums"]) (sc := defScope s_rest_machine) (by decide +kernel)) (fun _ _ _ _ _ => (pg_name (i := 7) sc_rest_machine.nd rfl (.inl rfl))) (fun _ _ _ _ _ => pts_nil) (fun _ _ _ _ _ => (pe_cmpR (op_inK (K := K) rfl) (pv 7) (pv 2) (by with_unfolding_all rfl)))) pa_nil)))
      (pss_cons (NdefX.ps_ndefM (T := TS) (nm := nm_rest_machine) (i := 9) TB rfl hmT (by rfl) hmu (NdefX.ndef_free (sc := defScope s_rest_machine) (nsc := C8.fnScope (nst_rest)) (fr := []) (by decide +kernel)) rfl rfl rfl sc_rest_machine.nd rfl (.inl rfl) (.inl rfl))
      (pss_cons (ps_set (i := 10) sc_rest_machine.nd rfl (Or.inl rfl) (pe_dn dSums hr (pa_cons (pe_lc (own := [("factor", 4)]) (g := gName 4) (tt := tYes) rfl sc_rest_machine.nd (pi_anyK (K := K) rfl (pv 0)) (blkOk_by (N := ["factors", "m", "rests", "common", "factor", "wanted_at", "at", "rest", "first", "follow", "sums"]) (sc := defScope s_rest_machine) (by decide +kernel)) (fun _ _ _ _ _ => (pg_name (i := 4) sc_rest_machine.nd rfl (.inl rfl))) (fun _ _ _ _ _ => pts_nil) (fun _ _ _ _ _ => (pe_op op_fdivN (pv 4) (pv 3)))) pa_nil)))
      (pss_one (ps_ret (pe_dnC (Good := Good) dExplF hCx hr (pa_cons (pv 8) (pa_cons (pv 10) (pa_cons (pv 9) (pa_cons (pe_lamE (T := TS) (nm := nm_rest_machine) TB rfl hmT (by rfl) hmu rfl (NdefX.ndef_free (sc := defScope s_rest_machine) (nsc := nscope_restE) (fr := []) (by decide +kernel))) pa_nil)))))))))))))), ?_⟩
    obtain ⟨cm, ecm⟩ : ∃ cm, cm = ZA.cgcd m fs := ⟨_, rfl⟩
    obtain ⟨dm, dfs⟩ := ZA.cgcd_dvd fs m
    rw [← ecm] at dm dfs
    obtain ⟨q, hq⟩ := dm
    have c1 : 1 ≤ cm := Nat.pos_of_ne_zero fun z => by rw [z, Nat.zero_mul] at hq; omega
    have q1 : 1 ≤ q := Nat.pos_of_ne_zero fun z => by rw [z, Nat.mul_zero] at hq; omega
    have q6 : q ≤ 6 := by
      have : q ≤ cm * q := Nat.le_mul_of_pos_left _ c1
      omega
    have c6 : cm ≤ 6 := by
      have : cm ≤ cm * q := Nat.le_mul_of_pos_right _ q1
      omega
    have RG : RgC 0 ((m : Nat) : Int) (cm : Int) q := by
      have := rgc c1 q1 (by omega)
      rwa [← hq] at this
    have mdiv : ((m : Nat) : Int).fdiv (cm : Int) = (q : Nat) := by
      rw [hq, Int.natCast_mul, Int.mul_fdiv_cancel_left _ (by omega)]
    refine ⟨_, rfl, ?_⟩
    refine normG (σ' := [some (.ref fa), some (.int (m : Nat)), some (.ref ra), some (.int (m : Nat)), none, none, none, none, none, none, none]) rfl ?_
    refine any_var rfl (xs := fs.map V.int) hf (fun J1 wk1 => ?_)
    refine for_it wk1 (fun i σ H' => H' = H ∧ ∃ o, σ = [some (.ref fa), some (.int (m : Nat)), some (.ref ra), some (.int (ZA.cgcd m (fs.take i) : Nat)), o, none, none, none, none, none, none]) ⟨rfl, _, rfl⟩ (fun _ _ _ _ ⟨e, _⟩ => by rw [e]) ?_ ?_
    · rintro i x σ H2 H3 hi ⟨rfl, o, rfl⟩ ⟨rfl, ex⟩
      obtain ⟨y, hy, rfl⟩ := map_at ex
      refine normG (σ' := [some (.ref fa), some (.int (m : Nat)), some (.ref ra), some (.int (ZA.cgcd m (fs.take i) : Nat)), some (.int y), none, none, none, none, none, none]) rfl ?_
      refine ⟨_, rfl, _, rfl, _, _, rfl, rfl, some (V.int y), ?_⟩
      rw [List.take_add_one, hy]
      show _ = [_, _, _, some (V.int (ZA.cgcd m (fs.take i ++ [y]) : Nat)), _, _, _, _, _, _, _]
      rw [ZA.cgcd_snoc]
      rfl
    · rintro σ H2 ⟨rfl, o, rfl⟩
      rw [List.length_map, List.take_length, ← ecm]
      have wl := ZA.wantB_len cm q rs
      obtain ⟨pq, epq⟩ : ∃ pq : Nat → Bool, pq = fun j => decide (((j * cm : Nat) : Int) ∈ rs) := ⟨_, rfl⟩
      refine ⟨_, rfl, _, rfl, _, _, _, q, rfl, RG, ?_⟩
      intro D hD
      refine lc_it (walk_enr (lo := 0) (c := (cm : Int)) (n := q)) (fun i Hc => Hc D = some (.lst (((List.range i).filter pq).map nV)) ∧ Same H2 Hc) ⟨upd_same, same_new (Same.refl _) hD⟩ (fun _ _ _ _ => trivial) ?_ ?_
      · rintro i x Hc Hc' hi ⟨eD, sc⟩ ⟨U, x, y, rfl, hU, rfl, ex, ey⟩
        cases ex
        cases ey
        have sU : Same Hc (upd Hc U (.tup [.int (i : Int), .int (0 + (i : Int) * (cm : Int))])) := Same.new _ (Same.refl Hc) hU
        have step : (List.range (i + 1)).filter pq = (List.range i).filter pq ++ if pq i = true then [i] else [] := by
          rw [List.range_succ, List.filter_append]
          congr 1
          by_cases z : pq i = true <;> simp [z]
        refine ⟨U, _, rfl, SqT.of upd_same, rfl, _, _, rfl, _, _, rfl, rfl, rfl, _, rfl, _, rfl, ra, _, rfl, (hrs.same (sc.trans sU)).any, rfl, flat_int rs, _, rfl, ?_⟩
        have ei : inV (.int (0 + (i : Int) * (cm : Int))) (rs.map V.int) = pq i := by
          rw [inV_int, epq, Int.zero_add, ← Int.natCast_mul]
        show if inV (.int (0 + (i : Int) * (cm : Int))) (rs.map V.int) = true then _ else _
        rw [ei]
        refine ite2 (fun z => ?_) (fun z => ?_)
        · refine ⟨_, rfl, _, sU _ _ eD, szL _ ?_, ?_, same_upd (sc.trans sU) hD⟩
          · rw [List.length_map]
            have := List.length_filter_le pq (List.range i)
            rw [List.length_range] at this
            omega
          · rw [upd_same, step, if_pos z, List.map_append]
            rfl
        · rw [step, if_neg z, List.append_nil]
          exact ⟨sU _ _ eD, sc.trans sU⟩
      · rintro H3 ⟨eD, s3⟩
        obtain ⟨wq, ewq⟩ : ∃ wq, wq = (List.range q).filter pq := ⟨_, rfl⟩
        rw [← ewq] at eD
        obtain ⟨fs', efs⟩ : ∃ fs', fs' = fs.map fun f => f.fdiv (cm : Int) := ⟨_, rfl⟩
        have lf : fs'.length = fs.length := by rw [efs, List.length_map]
        have langs : ∀ u, ZA.atR (ZA.wantB cm q rs) (ZA.total (2 ^ fs.length) fs' u) = decide (ZA.total (2 ^ fs.length) fs u % (m : Int) ∈ rs) := fun u => by
          rw [ZA.wantB_at (by omega) (by omega), ← hq, efs, ← ZA.total_scale (by omega) dfs]
        refine normG (σ' := [some (.ref fa), some (.int (m : Nat)), some (.ref ra), some (.int (cm : Nat)), o, some (.ref D), none, none, none, none, none]) rfl ?_
        refine ⟨_, rfl, D, _, rfl, .inl (SqL.of eD), rfl, _, rfl, ite2 (fun z => ?_) (fun z => ?_)⟩
        · have z : wq.length = 1 := by
            have := of_decide_eq_true z
            rw [List.length_map] at this
            injection this with this
            omega
          obtain ⟨r, er⟩ := List.length_eq_one_iff.mp z
          have hr0 : r ∈ (List.range q).filter pq := by rw [← ewq, er]; exact List.mem_singleton.mpr rfl
          have rq : r < q := List.mem_range.mp (List.mem_filter.mp hr0).1
          refine any_var rfl (xs := fs.map V.int) (hf.same s3) (fun J2 wk2 => ?_)
          intro D2 hD2
          refine lc_all wk2 hD2 (by rw [List.length_map]; omega) (fun i y _ => ∀ g, fs[i]? = some g → y = V.int (g.fdiv (cm : Int))) (fun _ _ _ _ _ h => h) (fun H8 s8 => hf.eqs (s3.trans s8) s3) ?_ ?_
          · rintro i x H5 H6 R N zs hi s5 eD5 ⟨rfl, ex⟩ k5
            obtain ⟨g, hg, rfl⟩ := map_at ex
            refine ⟨rfl, yes_to ⟨_, rfl, _, rfl, _, _, rfl, rfl, ⟨by omega, by omega⟩, k5 _ _ (Same.refl _) ?_⟩⟩
            intro g' hg'
            rw [hg] at hg'
            cases hg'
            rfl
          · intro ys H5 ly py s5 eD5
            rw [List.length_map] at ly
            have ey : ys = fs'.map V.int := by
              rw [efs, List.map_map]
              exact list_maps ly py
            rw [ey] at eD5
            have eDq := s5 _ _ eD
            rw [er] at eDq
            refine ⟨_, rfl, _, rfl, _, _, rfl, rfl, ⟨by omega, by omega⟩, _, rfl, D, _, _, _, rfl, rfl, .inl (SqL.of eDq), at0, D2, fs', q, r, ?_, .inl eD5, by omega, by omega, q1, q6, rq, tabs.ext (s3.trans s5), fun v H' M ext tabs' mt okM n0 n20 wM lgM => ?_⟩
            · show [V.ref D2, V.int (((m : Nat) : Int).fdiv (cm : Int)), nV r] = _
              rw [mdiv]
              rfl
            · rw [lf] at wM lgM
              refine k v H' M ((LamX.ExtN.of (s3.trans s5)).trans ext) tabs' mt okM n0 n20 wM fun u => ?_
              rw [lgM u, ← langs u]
              unfold ZA.wantB
              rw [ZA.atR_map (by omega)]
              have p1 := Int.emod_nonneg (ZA.total (2 ^ fs.length) fs' u) (b := (q : Int)) (by omega)
              have p2 := Int.emod_lt_of_pos (ZA.total (2 ^ fs.length) fs' u) (b := (q : Int)) (by omega)
              obtain ⟨j, hj⟩ : ∃ j, j = (ZA.total (2 ^ fs.length) fs' u % (q : Int)).toNat := ⟨_, rfl⟩
              have hj2 : ZA.total (2 ^ fs.length) fs' u % (q : Int) = (j : Int) := by omega
              rw [← hj, hj2]
              have mem : j ∈ wq ↔ pq j = true := by
                rw [ewq, List.mem_filter, List.mem_range]
                exact ⟨fun h => h.2, fun h => ⟨by omega, h⟩⟩
              rw [er, List.mem_singleton] at mem
              have e3 : pq j = decide (((j * cm : Nat) : Int) ∈ rs) := by rw [epq]
              rw [← e3]
              by_cases y : j = r
              · rw [mem.mp y]
                exact decide_eq_true (by rw [y])
              · have : pq j = false := by
                  cases w : pq j with
                  | true => exact absurd (mem.mpr w) y
                  | false => rfl
                rw [this]
                exact decide_eq_false fun h => y (by omega)
        · refine un_next ?_
          refine ⟨_, rfl, _, rfl, _, _, _, q, rfl, RG, ?_⟩
          intro D2 hD2
          refine lc_all (walk_rangeC (lo := 0) (c := (cm : Int)) (n := q)) hD2 (by omega) (fun i y _ => y = V.bl (pq i)) (fun _ _ _ _ _ h => h) (fun _ _ => trivial) ?_ ?_
          · rintro i x H5 H6 R N zs hi s5 eD5 ⟨rfl, rfl⟩ k5
            refine ⟨rfl, yes_to ⟨_, rfl, _, rfl, ra, _, rfl, (hrs.same (s3.trans s5)).any, rfl, flat_int rs, k5 _ _ (Same.refl _) ?_⟩⟩
            show V.bl (inV (.int (0 + (i : Int) * (cm : Int))) (rs.map V.int)) = _
            rw [inV_int, epq, Int.zero_add, ← Int.natCast_mul]
          · intro ys H5 ly py s5 eD5
            have ey : ys = bls (ZA.wantB cm q rs) := by
              unfold bls ZA.wantB
              rw [List.map_map]
              have := list_is ly py
              rw [this, epq]
              rfl
            rw [ey] at eD5
            have ne : ZA.wantB cm q rs ≠ [] := fun h => by
              rw [h] at wl
              simp at wl
              omega
            refine ⟨D2, _, rfl, eD5, ne, by omega, fun t H6 s6 ht => ?_⟩
            have s36 := s3.trans (s5.trans s6)
            refine normG (σ' := [some (.ref fa), some (.int (m : Nat)), some (.ref ra), some (.int (cm : Nat)), o, some (.ref D), none, none, some (.ref t), none, none]) rfl ?_
            refine ⟨tabs.ext s36, fun f1 c1 H7 e7 nn7 tabs7 n1 hf1 hc1 => ?_⟩
            refine norm (N := fun σ _ => _) (σ' := [some (.ref fa), some (.int (m : Nat)), some (.ref ra), some (.int (cm : Nat)), o, some (.ref D), none, none, some (.ref t), some (.ref f1), none]) rfl ?_
            have ht7 := e7 _ _ ht (fun _ z => by cases z)
            have hf7 := sq_ext (hf.same s36) e7
            refine any_var rfl (xs := fs.map V.int) hf7 (fun J2 wk2 => ?_)
            intro D3 hD3
            refine lc_all wk2 hD3 (by rw [List.length_map]; omega) (fun i y _ => ∀ g, fs[i]? = some g → y = V.int (g.fdiv (cm : Int))) (fun _ _ _ _ _ h => h) (fun H8 s8 => hf7.eqs s8 (Same.refl _)) ?_ ?_
            · rintro i x H8 H9 R N zs hi s8 eD8 ⟨rfl, ex⟩ k8
              obtain ⟨g, hg, rfl⟩ := map_at ex
              refine ⟨rfl, yes_to ⟨_, rfl, _, rfl, _, _, rfl, rfl, ⟨by omega, by omega⟩, k8 _ _ (Same.refl _) ?_⟩⟩
              intro g' hg'
              rw [hg] at hg'
              cases hg'
              rfl
            · intro ys3 H8 ly3 py3 s8 eD8
              rw [List.length_map] at ly3
              have ey3 : ys3 = fs'.map V.int := by
                rw [efs, List.map_map]
                exact list_maps ly3 py3
              rw [ey3] at eD8
              refine ⟨D3, fs', rfl, .inl eD8, by omega, fun ll H9 s9 hll => ?_⟩
              refine normG (σ' := [some (.ref fa), some (.int (m : Nat)), some (.ref ra), some (.int (cm : Nat)), o, some (.ref D), none, none, some (.ref t), some (.ref f1), some (.ref ll)]) rfl ?_
              have s79 := s8.trans s9
              refine ⟨_, rfl, _, rfl, _, rfl, tabs7.ext s79, fun f2 c2 H10 e10 tabs10 n2 hf2 hc2 => ?_⟩
              obtain ⟨s1q, s2q⟩ := ZA.sh_len ne
              obtain ⟨X, hX0, hXc, hXl, bdX⟩ := ZA.rest_few_len (fs := fs') (v0 := ZA.sh (ZA.wantB cm q rs)) ⟨s1q, by omega⟩
              have w2 : 2 ≤ 2 ^ fs.length := Nat.le_trans (by decide : 2 ≤ 2 ^ 1) (Nat.pow_le_pow_right (by decide) l1)
              have wm : 2 ^ fs.length ≤ 1000 := Nat.le_trans (Nat.pow_le_pow_right (by decide) l4) (by decide : 2 ^ 4 ≤ 1000)
              have e710 : LamX.ExtN H7 H10 := (LamX.ExtN.of s79).trans e10
              refine ⟨(cloN f1 ⟨"follow", "rest_machine.<locals>.follow", C8.fnArgs nst_rest, C8.fnBody nst_rest, nscope_rest, [], c1⟩ [] [], cloL f2 ⟨"<lambda>", "rest_machine.<locals>.<lambda>", aRestE, [], nscope_restE, [], c2⟩ bRestE [] []), by rw [eG]; exact fun h H => cells_nil, List Bool, inferInstance, restK, restRp, ZA.restF ZA.sh fs', fun x => ZA.atR x 0, ZA.sh (ZA.wantB cm q rs), X, 2 ^ fs.length, ZA.dsums fs', .ref t, ll, rfl, ?_, fun v H' met rows s' hv ex lm => ?_⟩
              · refine ⟨rest_rep, ⟨t, rfl, e710 _ _ ht7 (fun _ z => by cases z)⟩, e10 _ _ hll (fun _ z => by cases z), by rw [ZA.dsums_len, lf], w2, wm, hX0, hXc.w, hXl, ⟨e710 _ _ hf1 (NdefX.fnO_ne (F := _)), e710 _ _ hc1 LamX.codeO_ne⟩, ⟨hf2, hc2⟩, ?_, ?_, fun h H => cells_nil⟩
                · refine (clo_rest T dShortest f1 c1 _).imp ?_
                  rintro vs H Q E ⟨x, v, cc, d, rfl, hv, hx, hc, hd, kk⟩
                  refine ⟨x, v, d, rfl, hv, (bdX x hx).1, (bdX x hx).2, fun v' H' s' hv' => kk v' H' s' ?_⟩
                  have hd2 : d = ZA.dsum fs' cc := by
                    have := ZA.dsums_at fs' cc (by rw [lf]; exact hc)
                    rw [this] at hd
                    exact (Option.some.inj hd).symm
                  rw [hd2] at hv'
                  exact hv'
                · refine ((clo_restE f2 c2 _).mono (by decide)).imp ?_
                  rintro vs H Q E ⟨x, v, rfl, hv, hx, kk⟩
                  exact ⟨x, v, rfl, hv, (bdX x hx).1, kk⟩
              · refine k v H' _ (((LamX.ExtN.of s36).trans e7).trans (e710.trans (LamX.ExtN.of s'))) (tabs10.ext s') hv (ex.ok (Nat.le_trans (by decide) w2)) ?_ ?_ rfl (fun u => ?_)
                · show 0 < rows.length
                  rw [ex.len]
                  exact (List.getElem?_eq_some_iff.mp ex.zero).1
                · show rows.length ≤ 20
                  rw [ex.len]
                  exact lm
                · rw [ex.lang (Nat.le_trans (by decide) w2) u 0 _ ex.zero, ← langs u]
                  show ZA.atR (ZA.fold _ (ZA.restF ZA.sh fs') (ZA.sh (ZA.wantB cm q rs)) u) 0 = _
                  rw [(ZA.rest_reads (fun v hv => ZA.sh_like hv) u _ (List.length_pos_iff.mp s1q)).2]
                  exact (ZA.sh_like ne).2 _
end
end K01
set_option maxHeartbeats 4000000
namespace K01
open PySem PySem.Spec PyProof.Rows L2 Z
inductive Cond
  | is (fs : List Int) (k : Int)
  | least (fs : List Int) (k : Int)
  | rest (fs : List Int) (m : Nat) (rs : List Int)
def Cond.fs : Cond → List Int
  | .is fs _ => fs
  | .least fs _ => fs
  | .rest fs _ _ => fs
/-- what it says of a sum -/
def Cond.says : Cond → Int → Bool
  | .is _ k, t => decide (t = k)
  | .least _ k, t => decide (k ≤ t)
  | .rest _ m rs, t => decide (t % (m : Int) ∈ rs)
def Cond.Ok (k : Nat) : Cond → Prop
  | .is fs n => fs.length = k ∧ -10 ≤ n ∧ n ≤ 10 ∧ ZA.highS fs - ZA.lowS fs ≤ 9
  | .least fs n => fs.length = k ∧ -10 ≤ n ∧ n ≤ 10 ∧ ZA.highS fs - ZA.lowS fs ≤ 9
  | .rest fs m _ => fs.length = k ∧ 1 ≤ m ∧ m ≤ 6
def CondAt (H : Hp) (v : V) (c : Cond) : Prop := ∃ t fa, v = .ref t ∧ H fa = some (.tup (c.fs.map V.int)) ∧ match c with
  | .is _ k => H t = some (.tup [.str "is", .ref fa, .int k])
  | .least _ k => H t = some (.tup [.str "least", .ref fa, .int k])
  | .rest _ m rs => ∃ ra, H t = some (.tup [.str "rest", .ref fa, .int (m : Nat), .ref ra]) ∧ H ra = some (.tup (rs.map V.int))
theorem CondAt.same {H H' : Hp} {v : V} {c : Cond} (h : CondAt H v c) (s : Same H H') : CondAt H' v c := by
  obtain ⟨t, fa, e, hf, h⟩ := h
  refine ⟨t, fa, e, s _ _ hf, ?_⟩
  match c, h with
  | .is _ _, h => exact s _ _ h
  | .least _ _, h => exact s _ _ h
  | .rest _ _ _, ⟨ra, h1, h2⟩ => exact ⟨ra, s _ _ h1, s _ _ h2⟩
theorem CondAt.ext {H H' : Hp} {v : V} {c : Cond} (h : CondAt H v c) (s : LamX.ExtN H H') : CondAt H' v c := by
  have up : ∀ a xs, H a = some (.tup xs) → H' a = some (.tup xs) := fun a xs e => s _ _ e fun _ z => by cases z
  obtain ⟨t, fa, e, hf, h⟩ := h
  refine ⟨t, fa, e, up _ _ hf, ?_⟩
  match c, h with
  | .is _ _, h => exact up _ _ h
  | .least _ _, h => exact up _ _ h
  | .rest _ _ _, ⟨ra, h1, h2⟩ => exact ⟨ra, up _ _ h1, up _ _ h2⟩
/-- a machine of few states -/
structure Few (A : ZA.Aut) (w' n' : Nat) : Prop where
  ok : A.Ok
  pos : 0 < A.n
  few : A.n ≤ n'
  wd : A.w = w'
def spCondM (TS : List NdefX.NTab) : Sp := fun vs H Q _ => ∃ (v : V) (cd : Cond) (k : Nat), vs = [v] ∧ CondAt H v cd ∧ cd.Ok k ∧ 1 ≤ k ∧ k ≤ 4 ∧ NdefX.TabsN TS H ∧
  ∀ v H' A, LamX.ExtN H H' → NdefX.TabsN TS H' → MaT H' v A → Few A (2 ^ k) 20 → (∀ u, A.lang 0 u = cd.says (ZA.total (2 ^ k) cd.fs u)) → Q v H'
/-- the machine of one state, as empty_machine and full_machine lay it -/
def OneAt (H : Hp) (v : V) (k : Nat) (b : Bool) : Prop := ∃ m r e a, v = .ref m ∧ H m = some (.tup [.ref r, .ref e]) ∧ H r = some (.tup [.ref a]) ∧ H a = some (.tup (List.replicate (2 ^ k) (V.int 0))) ∧ H e = some (.tup [.bl b])
theorem OneAt.same {H H' : Hp} {v : V} {k : Nat} {b : Bool} (h : OneAt H v k b) (s : Same H H') : OneAt H' v k b := let ⟨m, r, e, a, h0, h1, h2, h3, h4⟩ := h; ⟨m, r, e, a, h0, s _ _ h1, s _ _ h2, s _ _ h3, s _ _ h4⟩
theorem rep_nV (n : Nat) : List.replicate n (V.int 0) = (List.replicate n 0).map nV := by
  rw [List.map_replicate]
  rfl
theorem OneAt.s {H : Hp} {v : V} {k : Nat} {b : Bool} (h : OneAt H v k b) : MaS H v (ZA.oneA (2 ^ k) b) := by
  obtain ⟨m, r, e, a, h0, h1, h2, h3, h4⟩ := h
  rw [rep_nV] at h3
  exact ⟨m, r, e, h0, h1, ⟨[.ref a], .inr (.inl h2), .cons (.inr (.inl h3)) .nil⟩, .inr (.inl h4)⟩
theorem OneAt.dp {K : PySem.W.Frag} {H : Hp} {v : V} {k : Nat} {b : Bool} (h : OneAt H v k b) : Dp K H v (maD (ZA.oneA (2 ^ k) b)) := by
  obtain ⟨m, r, e, a, rfl, h1, h2, h3, h4⟩ := h
  rw [rep_nV] at h3
  exact .tup (SqT.of h1) (.cons (.tup (SqT.of h2) (.cons (.tup (SqT.of h3) (nVs_dp _)) .nil)) (.cons (.tup (SqT.of h4) (.cons (.bl b) .nil)) .nil))
def spOneMach (b : Bool) : Sp := fun vs H Q _ => ∃ k : Nat, vs = [.int (k : Nat)] ∧ 1 ≤ k ∧ k ≤ 4 ∧ ∀ v H', Same H H' → OneAt H' v k b → Q v H'
section
variable {P : Program} {w : World} {K : PySem.W.Frag} {mg : Str → Option Value} {base : Heap}
theorem sc_condition_machine : FnScope ["condition"] ["condition"] (defScope s_condition_machine) := ⟨rfl, rfl, rfl, by decide +kernel, rfl, by decide +kernel, by decide +kernel⟩
theorem ok_condM {f : Addr} {fd : FuncData} {TS : List NdefX.NTab} (F : FnP K "condition_machine" s_condition_machine f fd) (T : Nb mg) (dBetwM : Dn P w K mg base 5 "between_machine" ["factors", "least", "most"] (spBetwM TS)) (dLeastM : Dn P w K mg base 5 "least_machine" ["factors", "number"] (spLeastM TS)) (dRestM : Dn P w K mg base 5 "rest_machine" ["factors", "m", "rests"] (spRestM TS)) :
    FnOk P w K mg base CX0 6 f fd ["condition"] (spCondM TS) := by
  refine F.ok sc_condition_machine (fun vs H Q E h => ?_) (fun cdv A outer s H vs Q E hr h => ?_)
  · obtain ⟨v, cd, k, rfl, _⟩ := h
    rfl
  · obtain ⟨v, cd, k, rfl, ⟨t, fa, rfl, hf, ht⟩, ok, k1, k4, tabs, q⟩ := h
    refine ⟨_, PSs.nox (pss_cons (ps_if (pt_cmpR op_eq (pe_ix (ix_anyK (K := K) rfl) (pv 0) pe_int (fun _ _ => rfl)) pe_str (nomark _)) (pss_one (ps_ret (pe_dn dBetwM hr (pa_cons (pe_ix (ix_anyK (K := K) rfl) (pv 0) pe_int (fun _ _ => rfl)) (pa_cons (pe_ix (ix_anyK (K := K) rfl) (pv 0) pe_int (fun _ _ => rfl)) (pa_cons (pe_ix (ix_anyK (K := K) rfl) (pv 0) pe_int (fun _ _ => rfl)) pa_nil)))))) pss_nil)
      (pss_cons (ps_if (pt_cmpR op_eq (pe_ix (ix_anyK (K := K) rfl) (pv 0) pe_int (fun _ _ => rfl)) pe_str (nomark _)) (pss_one (ps_ret (pe_dn dLeastM hr (pa_cons (pe_ix (ix_anyK (K := K) rfl) (pv 0) pe_int (fun _ _ => rfl)) (pa_cons (pe_ix (ix_anyK (K := K) rfl) (pv 0) pe_int (fun _ _ => rfl)) pa_nil))))) pss_nil)
      (pss_one (ps_ret (pe_dn dRestM hr (pa_cons (pe_ix (ix_anyK (K := K) rfl) (pv 0) pe_int (fun _ _ => rfl)) (pa_cons (pe_ix (ix_anyK (K := K) rfl) (pv 0) pe_int (fun _ _ => rfl)) (pa_cons (pe_ix (ix_anyK (K := K) rfl) (pv 0) pe_int (fun _ _ => rfl)) pa_nil)))))))), ?_⟩
    match cd, hf, ht, ok, q with
    | .is fs n, hf, ht, ⟨lk, n1, n2, sp⟩, q =>
      refine ⟨_, rfl, t, _, _, _, rfl, rfl, .inr (SqT.of ht), at0, rfl, _, rfl, if_yes rfl ?_⟩
      refine ⟨_, rfl, t, _, _, _, rfl, rfl, .inr (SqT.of ht), at1, _, rfl, t, _, _, _, rfl, rfl, .inr (SqT.of ht), at2, _, rfl, t, _, _, _, rfl, rfl, .inr (SqT.of ht), at2, fa, fs, n, rfl, .inr (.inl hf), by omega, by omega, n1, n2, sp, tabs, fun v H' M ext tabs' mt lst wM nM => ?_⟩
      rw [lk] at wM lst
      exact q v H' M ext tabs' mt ⟨lst.ok, lst.pos, nM, wM⟩ fun u => lst.lang u
    | .least fs n, hf, ht, ⟨lk, n1, n2, sp⟩, q =>
      refine ⟨_, rfl, t, _, _, _, rfl, rfl, .inr (SqT.of ht), at0, rfl, _, rfl, if_no rfl ?_⟩
      refine un_next ⟨_, rfl, t, _, _, _, rfl, rfl, .inr (SqT.of ht), at0, rfl, _, rfl, if_yes rfl ?_⟩
      refine ⟨_, rfl, t, _, _, _, rfl, rfl, .inr (SqT.of ht), at1, _, rfl, t, _, _, _, rfl, rfl, .inr (SqT.of ht), at2, fa, fs, n, rfl, .inr (.inl hf), by omega, by omega, n1, n2, sp, tabs, fun v H' M ext tabs' mt lst wM nM => ?_⟩
      rw [lk] at wM lst
      exact q v H' M ext tabs' mt ⟨lst.ok, lst.pos, nM, wM⟩ fun u => lst.lang u
    | .rest fs m rs, hf, ⟨ra, ht, hra⟩, ⟨lk, m1, m6⟩, q =>
      refine ⟨_, rfl, t, _, _, _, rfl, rfl, .inr (SqT.of ht), at0, rfl, _, rfl, if_no rfl ?_⟩
      refine un_next ⟨_, rfl, t, _, _, _, rfl, rfl, .inr (SqT.of ht), at0, rfl, _, rfl, if_no rfl ?_⟩
      refine un_next ⟨_, rfl, t, _, _, _, rfl, rfl, .inr (SqT.of ht), at1, _, rfl, t, _, _, _, rfl, rfl, .inr (SqT.of ht), at2, _, rfl, t, _, _, _, rfl, rfl, .inr (SqT.of ht), at3, fa, ra, fs, rs, m, rfl, .inr (.inl hf), .inr (.inl hra), by omega, by omega, m1, m6, tabs, fun v H' M ext tabs' mt ok n0 nM wM lgM => ?_⟩
      rw [lk] at wM lgM
      exact q v H' M ext tabs' mt ⟨ok, n0, nM, wM⟩ fun u => lgM u
theorem one_laid {b : Bool} {k : Nat} {H : Hp} {Q : VK} (k1 : 1 ≤ k) (k4 : k ≤ 4) (q : ∀ v H', Same H H' → OneAt H' v k b → Q v H') :
    tRet (tTup (tCons (tTup (tCons (tOp (rRepT K) (tTup (tCons (tC (V.int 0)) tNil)) (tOp (rI CPow fun i j => V.int (i * 2 ^ j.toNat)) (tC (V.int 1)) (tVar 0))) tNil)) (tCons (tTup (tCons (tC (V.bl b)) tNil)) tNil)))
    { nx := fun x H' => Q V.non H', rt := Q } (L2.start ["arity"] [V.int (k : Nat)]) H := by
  have p2 : 2 ≤ 2 ^ k := Nat.le_trans (by decide : 2 ≤ 2 ^ 1) (Nat.pow_le_pow_right (by decide) k1)
  have p16 : 2 ^ k ≤ 1000 := Nat.le_trans (Nat.pow_le_pow_right (by decide) k4) (by decide : 2 ^ 4 ≤ 1000)
  have e1 : (1 : Int) * 2 ^ ((k : Nat) : Int).toNat = ((2 ^ k : Nat) : Int) := by
    rw [Int.one_mul, Int.toNat_natCast, Int.natCast_pow]
    rfl
  refine ⟨sz1, fun a ha => ⟨_, rfl, _, _, rfl, rfl, ⟨by omega, by omega, by decide⟩, a, _, _, rfl, rfl, SqT.of upd_same, by simp, ?_, ?_, by simp, fun a2 ha2 => ?_⟩⟩
  · rw [e1]; omega
  · rw [e1]; omega
  rw [e1, Int.toNat_natCast]
  have ef : (List.replicate (2 ^ k) [V.int 0]).flatten = List.replicate (2 ^ k) (V.int 0) := by
    generalize 2 ^ k = n
    induction n with
    | zero => rfl
    | succ n ih =>
      rw [List.replicate_succ, List.flatten_cons, ih]
      rfl
  rw [ef]
  have s1 := same_new (o := .tup [V.int 0]) (Same.refl H) ha
  have s2 := same_new (o := .tup (List.replicate (2 ^ k) (V.int 0))) (Same.refl (upd H a (.tup [V.int 0]))) ha2
  generalize upd H a (.tup [V.int 0]) = H1 at *
  obtain ⟨H2, eH2⟩ : ∃ H2, H2 = upd H1 a2 (.tup (List.replicate (2 ^ k) (V.int 0))) := ⟨_, rfl⟩
  have h2 : H2 a2 = some (.tup (List.replicate (2 ^ k) (V.int 0))) := by rw [eH2]; exact upd_same
  rw [← eH2] at s2 ⊢
  refine ⟨sz1, fun r hr => ⟨sz1, fun e he => ⟨sz2, fun m hm => ?_⟩⟩⟩
  have s3 := same_new (o := .tup [V.ref a2]) (Same.refl H2) hr
  have s4 := same_new (o := .tup [V.bl b]) (Same.refl (upd H2 r (.tup [V.ref a2]))) he
  have s5 := same_new (o := .tup [V.ref r, V.ref e]) (Same.refl (upd (upd H2 r (.tup [V.ref a2])) e (.tup [V.bl b]))) hm
  exact q _ _ (s1.trans (s2.trans (s3.trans (s4.trans s5)))) ⟨m, r, e, a2, rfl, upd_same, s5 _ _ (s4 _ _ upd_same), s5 _ _ (s4 _ _ (s3 _ _ h2)), s5 _ _ upd_same⟩
theorem sc_empty_machine : FnScope ["arity"] ["arity"] (defScope s_empty_machine) := ⟨rfl, rfl, rfl, by decide +kernel, rfl, by decide +kernel, by decide +kernel⟩
theorem ok_emptyM {f : Addr} {fd : FuncData} (F : FnP K "empty_machine" s_empty_machine f fd) (T : Nb mg) : FnOk P w K mg base CX0 1 f fd ["arity"] (spOneMach false) := by
  refine F.ok sc_empty_machine (fun vs H Q E h => ?_) (fun cdv A outer s H vs Q E hr h => ?_)
  · obtain ⟨k, rfl, _⟩ := h
    rfl
  · obtain ⟨k, rfl, k1, k4, q⟩ := h
    refine ⟨_, PSs.nox (pss_one (ps_ret (pe_tup (pa_cons (pe_tup (pa_cons (pe_op (op_repTK (K := K) rfl) (pe_tup (pa_cons pe_int pa_nil)) (pe_op op_shl pe_int (pv 0))) pa_nil)) (pa_cons (pe_tup (pa_cons pe_bl pa_nil)) pa_nil))))), ?_⟩
    exact one_laid k1 k4 q
theorem sc_full_machine : FnScope ["arity"] ["arity"] (defScope s_full_machine) := ⟨rfl, rfl, rfl, by decide +kernel, rfl, by decide +kernel, by decide +kernel⟩
theorem ok_fullM {f : Addr} {fd : FuncData} (F : FnP K "full_machine" s_full_machine f fd) (T : Nb mg) : FnOk P w K mg base CX0 1 f fd ["arity"] (spOneMach true) := by
  refine F.ok sc_full_machine (fun vs H Q E h => ?_) (fun cdv A outer s H vs Q E hr h => ?_)
  · obtain ⟨k, rfl, _⟩ := h
    rfl
  · obtain ⟨k, rfl, k1, k4, q⟩ := h
    refine ⟨_, PSs.nox (pss_one (ps_ret (pe_tup (pa_cons (pe_tup (pa_cons (pe_op (op_repTK (K := K) rfl) (pe_tup (pa_cons pe_int pa_nil)) (pe_op op_shl pe_int (pv 0))) pa_nil)) (pa_cons (pe_tup (pa_cons pe_bl pa_nil)) pa_nil))))), ?_⟩
    exact one_laid k1 k4 q
end
end K01
set_option maxHeartbeats 4000000
namespace K01
open PySem PySem.Spec PyProof.Rows L2 Z
theorem u65 {k : Nat} {A : Around} (h : Room k A) : A.units + 65 < cLine := by have := h.un; omega
theorem op_neDK {X : Cx} {K : PySem.W.Frag} (h : X.K = K) (hu : X.A.units + 64 < cLine) : OpR X (compareOp .NotEq) (rNeD K) := h ▸ op_neD hu
theorem eqvAll_nats : ∀ u v : List Nat, PyData.eqvAll (u.map fun (n : Nat) => PyData.int (n : Int)) (v.map fun (n : Nat) => PyData.int (n : Int)) = decide (u = v)
  | [], [] => by simp [PyData.eqvAll]
  | [], _ :: _ => by simp [PyData.eqvAll]
  | _ :: _, [] => by simp [PyData.eqvAll]
  | a :: u, b :: v => by
    have ih := eqvAll_nats u v
    rw [List.map_cons, List.map_cons, PyData.eqvAll, ih]
    have e : PyData.eqv (.int (a : Int)) (.int (b : Int)) = decide (a = b) := by
      simp only [PyData.eqv]
      by_cases z : a = b
      · simp [z]
      · have : ¬ (a : Int) = b := by omega
        simp [z, this]
    rw [e]
    by_cases z : a = b <;> by_cases y : u = v <;> simp [z, y]
theorem eqv_row (u v : List Nat) : PyData.eqv (rowD u) (rowD v) = decide (u = v) := by
  rw [← eqvAll_nats u v]
  simp [PyData.eqv, rowD]
theorem eqvAll_rows : ∀ u v : List (List Nat), PyData.eqvAll (u.map rowD) (v.map rowD) = decide (u = v)
  | [], [] => by simp [PyData.eqvAll]
  | [], _ :: _ => by simp [PyData.eqvAll]
  | _ :: _, [] => by simp [PyData.eqvAll]
  | a :: u, b :: v => by
    have ih := eqvAll_rows u v
    rw [List.map_cons, List.map_cons, PyData.eqvAll, ih, eqv_row]
    by_cases z : a = b <;> by_cases y : u = v <;> simp [z, y]
theorem eqv_rows (u v : List (List Nat)) : PyData.eqv (.tuple (u.map rowD)) (.tuple (v.map rowD)) = decide (u = v) := by
  rw [← eqvAll_rows u v]
  simp [PyData.eqv]
theorem eqv_ends (u v : List Bool) : PyData.eqv (.tuple (u.map PyData.bool)) (.tuple (v.map PyData.bool)) = decide (u = v) := by
  rw [← eqvAll_bls u v]
  simp [PyData.eqv]
theorem eqv_maD (A B : ZA.Aut) : PyData.eqv (maD A) (maD B) = decide (A.rows = B.rows ∧ A.ends = B.ends) := by
  unfold maD
  rw [PyData.eqv, PyData.eqvAll, PyData.eqvAll, PyData.eqvAll, eqv_rows, eqv_ends]
  by_cases z : A.rows = B.rows <;> by_cases y : A.ends = B.ends <;> simp [z, y]
theorem lay_nats : ∀ u : List Nat, PyData.canLayAll0 (u.map fun (n : Nat) => PyData.int (n : Int)) = true
  | [] => by simp [PyData.canLayAll0]
  | _ :: u => by simp [PyData.canLayAll0, PyData.canLay0, lay_nats u]
theorem dep_nats : ∀ u : List Nat, PyData.depthAll (u.map fun (n : Nat) => PyData.int (n : Int)) = 0
  | [] => by simp [PyData.depthAll]
  | _ :: u => by simp [PyData.depthAll, PyData.depth, dep_nats u]
theorem lay_rows : ∀ u : List (List Nat), PyData.canLayAll0 (u.map rowD) = true
  | [] => by simp [PyData.canLayAll0]
  | r :: u => by simp [PyData.canLayAll0, rowD, PyData.canLay0, lay_nats r, lay_rows u]
theorem dep_rows : ∀ u : List (List Nat), PyData.depthAll (u.map rowD) ≤ 1
  | [] => by simp [PyData.depthAll]
  | r :: u => by
    have := dep_rows u
    simp only [List.map_cons, PyData.depthAll, rowD, PyData.depth, dep_nats r]
    omega
theorem shaped_rows (u : List (List Nat)) : SeqAt.shaped (.tuple (u.map rowD)) = true := by
  have := dep_rows u
  unfold SeqAt.shaped
  rw [PyData.canLay0, lay_rows, PyData.depth]
  simp
  omega
theorem shaped_ends (u : List Bool) : SeqAt.shaped (.tuple (u.map PyData.bool)) = true := by
  simp [SeqAt.shaped, PyData.canLay0, canLay_bls, PyData.depth, depth_bls]
theorem lay_maD (A : ZA.Aut) : (maD A).canLay0 = true := by
  unfold maD
  simp [PyData.canLay0, PyData.canLayAll0, lay_rows, canLay_bls]
theorem dep_maD (A : ZA.Aut) : (maD A).depth ≤ 3 := by
  have := dep_rows A.rows
  unfold maD
  simp only [PyData.depth, PyData.depthAll, depth_bls]
  omega
theorem shaped_maD (A : ZA.Aut) : SeqAt.shaped (maD A) = true := by
  have := dep_maD A
  unfold SeqAt.shaped
  rw [lay_maD]
  simp
  omega
theorem lay_maDs : ∀ u : List ZA.Aut, PyData.canLayAll0 (u.map maD) = true
  | [] => by simp [PyData.canLayAll0]
  | A :: u => by simp [PyData.canLayAll0, lay_maD A, lay_maDs u]
theorem dep_maDs : ∀ u : List ZA.Aut, PyData.depthAll (u.map maD) ≤ 3
  | [] => by simp [PyData.depthAll]
  | A :: u => by
    have := dep_maDs u
    have := dep_maD A
    simp only [List.map_cons, PyData.depthAll]
    omega
theorem shaped_maDs (u : List ZA.Aut) : SeqAt.shaped (.list (u.map maD)) = true := by
  have := dep_maDs u
  unfold SeqAt.shaped
  rw [PyData.canLay0, lay_maDs, PyData.depth]
  simp
  omega
def KL (H H' : Hp) : Prop := ∀ b o, H b = some o → (∀ xs, o ≠ .lst xs) → (∀ ps, o ≠ .tbl ps) → H' b = some o
theorem KL.refl (H : Hp) : KL H H := fun _ _ h _ _ => h
theorem KL.trans {H H1 H2 : Hp} (a : KL H H1) (b : KL H1 H2) : KL H H2 := fun c o h n m => b c o (a c o h n m) n m
theorem KL.of {H H' : Hp} (s : Same H H') : KL H H' := fun b o h _ _ => s b o h
theorem KL.ext {H H' : Hp} (s : LamX.ExtN H H') : KL H H' := fun b o h _ m => s b o h m
theorem KL.upd {H : Hp} {D : Addr} {xs : List V} {o : HO} (e : H D = some (.lst xs)) : KL H (upd H D o) := fun b o' h n _ => by
  rw [upd_ne (fun z => n xs (by rw [z, e] at h; exact (Option.some.inj h).symm))]
  exact h
theorem ext_upd {H0 H : Hp} {D : Addr} {o : HO} (e : LamX.ExtN H0 H) (n : H0 D = none) : LamX.ExtN H0 (upd H D o) := fun b o' h m => by
  rw [upd_ne (fun z => by rw [z, n] at h; cases h)]
  exact e b o' h m
section
variable {H H' : Hp}
theorem KL.tup (s : KL H H') {a : Addr} {xs : List V} (h : H a = some (.tup xs)) : H' a = some (.tup xs) := s _ _ h (fun _ z => by cases z) (fun _ z => by cases z)
theorem Fz.kl {a : Addr} {xs : List V} (h : Fz H a xs) (s : KL H H') : Fz H' a xs := let ⟨o, d, e⟩ := h; ⟨o, d, s _ _ e (fun _ z => by cases z) (fun _ z => by cases z)⟩
theorem RwZ.kl {vs : List V} {rs : List (List Nat)} (h : RwZ H vs rs) (s : KL H H') : RwZ H' vs rs := by
  induction h with
  | nil => exact .nil
  | cons h t ih => exact .cons (Fz.kl h s) ih
theorem MaT.kl {v : V} {A : ZA.Aut} (h : MaT H v A) (s : KL H H') : MaT H' v A := let ⟨m, r, e, vs, a, b, c, d, f⟩ := h; ⟨m, r, e, vs, a, s.tup b, s.tup c, RwZ.kl d s, s.tup f⟩
theorem CondAt.kl {v : V} {c : Cond} (h : CondAt H v c) (s : KL H H') : CondAt H' v c := by
  obtain ⟨t, fa, e, hf, h⟩ := h
  refine ⟨t, fa, e, s.tup hf, ?_⟩
  match c, h with
  | .is _ _, h => exact s.tup h
  | .least _ _, h => exact s.tup h
  | .rest _ _ _, ⟨ra, h1, h2⟩ => exact ⟨ra, s.tup h1, s.tup h2⟩
theorem tabs_upd {T : List NdefX.NTab} {D : Addr} {xs : List V} {o : HO} (t : NdefX.TabsN T H) (e : H D = some (.lst xs)) : NdefX.TabsN T (upd H D o) := fun p hp => by
  obtain ⟨ps, h1, h2, h3⟩ := t p hp
  refine ⟨ps, ?_, h2, fun pos cv hc => ?_⟩
  · rw [upd_ne (fun z => by rw [z, e] at h1; cases h1)]
    exact h1
  · obtain ⟨c, e1, e2⟩ := h3 pos cv hc
    refine ⟨c, e1, ?_⟩
    rw [upd_ne (fun z => by rw [z, e] at e2; cases e2)]
    exact e2
end
def Zs {α : Type} (R : α → V → Prop) (vs : List V) (xs : List α) : Prop := vs.length = xs.length ∧ ∀ (i : Nat) v x, vs[i]? = some v → xs[i]? = some x → R x v
section
variable {α : Type} {R R' : α → V → Prop} {vs : List V} {xs : List α}
theorem Zs.nil : Zs R [] [] := ⟨rfl, fun i v x h => by simp at h⟩
theorem Zs.imp (h : Zs R vs xs) (f : ∀ x v, R x v → R' x v) : Zs R' vs xs := ⟨h.1, fun i v x a b => f _ _ (h.2 i v x a b)⟩
theorem Zs.at (h : Zs R vs xs) {i : Nat} {v : V} (e : vs[i]? = some v) : ∃ x, xs[i]? = some x ∧ R x v := by
  have hi : i < xs.length := by rw [← h.1]; exact (List.getElem?_eq_some_iff.mp e).1
  exact ⟨_, List.getElem?_eq_getElem hi, h.2 i v _ e (List.getElem?_eq_getElem hi)⟩
theorem Zs.get (h : Zs R vs xs) {i : Nat} {x : α} (e : xs[i]? = some x) : ∃ v, vs[i]? = some v ∧ R x v := by
  have hi : i < vs.length := by rw [h.1]; exact (List.getElem?_eq_some_iff.mp e).1
  exact ⟨_, List.getElem?_eq_getElem hi, h.2 i _ x (List.getElem?_eq_getElem hi) e⟩
theorem Zs.snoc {v : V} {x : α} (h : Zs R vs xs) (k : R x v) : Zs R (vs ++ [v]) (xs ++ [x]) := by
  refine ⟨by simp [h.1], fun i u y a b => ?_⟩
  have l := h.1
  by_cases z : i < vs.length
  · rw [List.getElem?_append_left z] at a
    rw [List.getElem?_append_left (by omega)] at b
    exact h.2 i u y a b
  · have hi : i = vs.length := by
      have := (List.getElem?_eq_some_iff.mp a).1
      simp at this
      omega
    subst hi
    rw [List.getElem?_append_right (Nat.le_refl _), Nat.sub_self] at a
    rw [List.getElem?_append_right (by omega), l, Nat.sub_self] at b
    cases a
    cases b
    exact k
end
theorem all_like {α β : Type} {f : α → Bool} {g : β → Bool} : ∀ {xs : List α} {ys : List β}, xs.length = ys.length → (∀ (n : Nat) x y, xs[n]? = some x → ys[n]? = some y → f x = g y) → xs.all f = ys.all g
  | [], [], _, _ => rfl
  | [], _ :: _, l, _ => by cases l
  | _ :: _, [], l, _ => by cases l
  | x :: xs, y :: ys, l, h => by
    rw [List.all_cons, List.all_cons, h 0 x y rfl rfl, all_like (by simpa using l) fun n a b p q => h (n + 1) a b p q]
theorem all_filter {α : Type} {f p : α → Bool} : ∀ {xs : List α}, (∀ x ∈ xs, p x = false → f x = true) → (xs.filter p).all f = xs.all f
  | [], _ => rfl
  | x :: xs, h => by
    have ih := all_filter (xs := xs) fun y hy => h y (List.mem_cons_of_mem _ hy)
    rw [List.filter_cons, List.all_cons]
    cases z : p x with
    | true => rw [if_pos rfl, List.all_cons, ih]
    | false =>
      rw [if_neg (by decide), ih, h x List.mem_cons_self z]
      rfl
theorem dpAll_ms {K : PySem.W.Frag} {H : Hp} : ∀ {ys : List V} {As : List ZA.Aut}, Zs (fun A v => MaT H v A) ys As → DpAll K H ys (As.map maD)
  | [], [], _ => .nil
  | [], _ :: _, h => by cases h.1
  | _ :: _, [], h => by cases h.1
  | v :: ys, A :: As, h => .cons (MaT.dp (h.2 0 v A rfl rfl)) (dpAll_ms ⟨by simpa using h.1, fun i v x a b => h.2 (i + 1) v x a b⟩)
theorem one_is {A : ZA.Aut} {k : Nat} {b : Bool} (hw : A.w = 2 ^ k) (e : PyData.eqv (maD A) (maD (ZA.oneA (2 ^ k) b)) = true) : ∀ u, A.lang 0 u = b := by
  rw [eqv_maD] at e
  obtain ⟨e1, e2⟩ := of_decide_eq_true e
  have : A = ZA.oneA (2 ^ k) b := by
    obtain ⟨w', r', d'⟩ := A
    cases hw
    cases e1
    cases e2
    rfl
  rw [this]
  exact ZA.one_lang (Nat.pow_pos (by decide))
def CondsAt (H : Hp) (v : V) (cds : List Cond) : Prop := ∃ a vs, v = .ref a ∧ H a = some (.tup vs) ∧ Zs (fun c v => CondAt H v c) vs cds
def CasesAt (H : Hp) (v : V) (css : List (List Cond)) : Prop := ∃ a vs, v = .ref a ∧ H a = some (.tup vs) ∧ Zs (fun cds v => CondsAt H v cds) vs css
/-- .. lists or tuples -/
def CondsG (H : Hp) (v : V) (cds : List Cond) : Prop := ∃ a vs, v = .ref a ∧ (H a = some (.lst vs) ∨ H a = some (.tup vs)) ∧ Zs (fun c v => CondAt H v c) vs cds
def CasesG (H : Hp) (v : V) (css : List (List Cond)) : Prop := ∃ a vs, v = .ref a ∧ (H a = some (.lst vs) ∨ H a = some (.tup vs)) ∧ Zs (fun cds v => CondsG H v cds) vs css
theorem CondsAt.g {H : Hp} {v : V} {cds : List Cond} (h : CondsAt H v cds) : CondsG H v cds := let ⟨a, vs, e, h1, h2⟩ := h; ⟨a, vs, e, .inr h1, h2⟩
theorem CasesAt.g {H : Hp} {v : V} {css : List (List Cond)} (h : CasesAt H v css) : CasesG H v css := let ⟨a, vs, e, h1, h2⟩ := h; ⟨a, vs, e, .inr h1, h2.imp fun _ _ q => q.g⟩
theorem lt_ext {H H' : Hp} {a : Addr} {vs : List V} (h : H a = some (.lst vs) ∨ H a = some (.tup vs)) (s : LamX.ExtN H H') : H' a = some (.lst vs) ∨ H' a = some (.tup vs) := h.imp (fun h => s _ _ h fun _ z => by cases z) fun h => s _ _ h fun _ z => by cases z
theorem CondsG.ext {H H' : Hp} {v : V} {cds : List Cond} (h : CondsG H v cds) (s : LamX.ExtN H H') : CondsG H' v cds := let ⟨a, vs, e, h1, h2⟩ := h; ⟨a, vs, e, lt_ext h1 s, h2.imp fun _ _ q => q.ext s⟩
theorem CasesG.ext {H H' : Hp} {v : V} {css : List (List Cond)} (h : CasesG H v css) (s : LamX.ExtN H H') : CasesG H' v css := let ⟨a, vs, e, h1, h2⟩ := h; ⟨a, vs, e, lt_ext h1 s, h2.imp fun _ _ q => q.ext s⟩
theorem lt_eq {H H1 H2 : Hp} {a : Addr} {vs : List V} (h : H a = some (.lst vs) ∨ H a = some (.tup vs)) (s1 : LamX.ExtN H H1) (s2 : LamX.ExtN H H2) : H1 a = H2 a := h.elim (fun h => (s1 _ _ h fun _ z => by cases z).trans (s2 _ _ h fun _ z => by cases z).symm) fun h => (s1 _ _ h fun _ z => by cases z).trans (s2 _ _ h fun _ z => by cases z).symm
theorem lt_sq {H : Hp} {a : Addr} {vs : List V} (h : H a = some (.lst vs) ∨ H a = some (.tup vs)) : Sq H a vs := h.imp id .inl
def MsAt (H : Hp) (v : V) (Ms : List ZA.Aut) : Prop := ∃ a vs, v = .ref a ∧ H a = some (.lst vs) ∧ Zs (fun M v => MaT H v M) vs Ms
def MssAt (H : Hp) (v : V) (Mss : List (List ZA.Aut)) : Prop := ∃ a vs, v = .ref a ∧ H a = some (.lst vs) ∧ Zs (fun Ms v => MsAt H v Ms) vs Mss
theorem CondsAt.kl {H H' : Hp} {v : V} {cds : List Cond} (h : CondsAt H v cds) (s : KL H H') : CondsAt H' v cds := let ⟨a, vs, e, h1, h2⟩ := h; ⟨a, vs, e, s.tup h1, h2.imp fun _ _ q => q.kl s⟩
theorem CasesAt.kl {H H' : Hp} {v : V} {css : List (List Cond)} (h : CasesAt H v css) (s : KL H H') : CasesAt H' v css := let ⟨a, vs, e, h1, h2⟩ := h; ⟨a, vs, e, s.tup h1, h2.imp fun _ _ q => q.kl s⟩
theorem MsAt.ext {H H' : Hp} {v : V} {Ms : List ZA.Aut} (h : MsAt H v Ms) (s : LamX.ExtN H H') : MsAt H' v Ms := let ⟨a, vs, e, h1, h2⟩ := h; ⟨a, vs, e, s _ _ h1 (fun _ z => by cases z), h2.imp fun _ _ q => MaT.kl q (.ext s)⟩
theorem MssAt.ext {H H' : Hp} {v : V} {Mss : List (List ZA.Aut)} (h : MssAt H v Mss) (s : LamX.ExtN H H') : MssAt H' v Mss := let ⟨a, vs, e, h1, h2⟩ := h; ⟨a, vs, e, s _ _ h1 (fun _ z => by cases z), h2.imp fun _ _ q => q.ext s⟩
/-- a machine tells what a condition says -/
def Tells (k : Nat) (M : ZA.Aut) (c : Cond) : Prop := Few M (2 ^ k) 20 ∧ ∀ u, M.lang 0 u = c.says (ZA.total (2 ^ k) c.fs u)
def saysAll (k : Nat) (cds : List Cond) (u : List Nat) : Bool := cds.all fun c => c.says (ZA.total (2 ^ k) c.fs u)
/-- what becomes of a case -/
def Out (k : Nat) (cds : List Cond) : Option (List ZA.Aut) → Prop
  | none => ∀ u, saysAll k cds u = false
  | some Ms => Ms.length ≤ cds.length ∧ (∀ M ∈ Ms, Few M (2 ^ k) 20) ∧ ∀ u, Ms.all (fun M => M.lang 0 u) = saysAll k cds u
def spCaseM (TS : List NdefX.NTab) : Sp := fun vs H Q _ => ∃ (k : Nat) (v : V) (css : List (List Cond)), vs = [.int (k : Nat), v] ∧ CasesG H v css ∧ 1 ≤ k ∧ k ≤ 4 ∧ css.length ≤ 1000 ∧ (∀ cds ∈ css, cds.length ≤ 1000 ∧ ∀ c ∈ cds, c.Ok k) ∧ NdefX.TabsN TS H ∧
  ∀ v' H' (os : List (Option (List ZA.Aut))), LamX.ExtN H H' → NdefX.TabsN TS H' → os.length = css.length → (∀ (i : Nat) o cds, os[i]? = some o → css[i]? = some cds → Out k cds o) → MssAt H' v' (os.filterMap id) → Q v' H'
section
variable {P : Program} {w : World} {K : PySem.W.Frag} {mg : Str → Option Value} {base : Heap}
theorem sc_case_machines : FnScope ["arity", "cases", "told", "case", "machines", "condition", "machine"] ["arity", "cases"] (defScope s_case_machines) := ⟨rfl, rfl, rfl, by decide +kernel, rfl, by decide +kernel, by decide +kernel⟩
theorem ok_caseM {f : Addr} {fd : FuncData} {TS : List NdefX.NTab} (F : FnP K "case_machines" s_case_machines f fd) (T : Nb mg) (dCondM : Dn P w K mg base 6 "condition_machine" ["condition"] (spCondM TS)) (dEmptyM : Dn P w K mg base 1 "empty_machine" ["arity"] (spOneMach false)) (dFullM : Dn P w K mg base 1 "full_machine" ["arity"] (spOneMach true)) :
    FnOk P w K mg base CX0 7 f fd ["arity", "cases"] (spCaseM TS) := by
  refine F.ok sc_case_machines (fun vs H Q E h => ?_) (fun cdv A outer s H vs Q E hr h => ?_)
  · obtain ⟨k, v, css, rfl, _⟩ := h
    rfl
  · obtain ⟨k, v, css, rfl, ⟨ca, cvs, rfl, hca, hcs⟩, k1, k4, lc, okc, tabs, q⟩ := h
    have hu64 := hr.units
    refine ⟨_, PSs.nox (pss_cons (ps_set (i := 2) sc_case_machines.nd rfl (Or.inl rfl) (pe_lst pa_nil))
      (pss_cons (ps_for PassesOwn.never rfl (pi_anyK (K := K) rfl (pv 1)) (pg_name (i := 3) sc_case_machines.nd rfl (.inl rfl)) (pss_cons (ps_setLc (i := 4) (own := [("condition", 5)]) (g := gName 5) (tt := tYes) rfl sc_case_machines.nd rfl rfl (sw_true rfl rfl rfl (by decide +kernel)) (pi_anyK (K := K) rfl (pv 3)) (blkOk_by (N := ["arity", "cases", "told", "case", "machines", "condition", "machine"]) (sc := defScope s_case_machines) (by decide +kernel)) (fun _ _ _ _ _ => (pg_name (i := 5) sc_case_machines.nd rfl (.inl rfl))) (fun _ _ _ _ _ => pts_nil) (fun _ _ _ _ _ => (pe_dn dCondM hr (pa_cons (pv 5) pa_nil))))
      (pss_one (ps_if (pt_cmpR (op_notInD (u65 hr)) (pe_dn dEmptyM hr (pa_cons (pv 0) pa_nil)) (pv 4) (by with_unfolding_all rfl)) (pss_one (ps_expr (pe_bm PySem.F.plainAttrs_list PySem.F.slot_list_append PySem.F.type_list_append mt_append (pv 2) (pa_cons (pe_lc (own := [("machine", 6)]) (g := gName 6) rfl sc_case_machines.nd (pi_anyK (K := K) rfl (pv 4)) (blkOk_by (N := ["arity", "cases", "told", "case", "machines", "condition", "machine"]) (sc := defScope s_case_machines) (by decide +kernel)) (fun _ _ _ _ _ => (pg_name (i := 6) sc_case_machines.nd rfl (.inl rfl))) (fun _ _ _ _ _ => (pts_one (pt_cmpR (op_neDK (K := K) rfl hu64) (pv 6) (pe_dn dFullM hr (pa_cons (pv 0) pa_nil)) (nomark _)))) (fun _ _ _ _ _ => (pv 6))) pa_nil)))) pss_nil))))
      (pss_one (ps_ret (pv 2))))), ?_⟩
    refine ⟨Nat.zero_le _, fun D hD => ?_⟩
    have s0 := same_new (o := .lst []) (Same.refl H) hD
    refine normG (σ' := [some (.int (k : Nat)), some (.ref ca), some (.ref D), none, none, none, none]) rfl ?_
    refine any_var rfl (xs := cvs) (lt_sq (lt_ext hca (.of s0))) (fun J wk => ?_)
    refine for_it wk (fun i σ Hc => ∃ (v3 v4 : Option V) (tvs : List V) (os : List (Option (List ZA.Aut))), σ = [some (.int (k : Nat)), some (.ref ca), some (.ref D), v3, v4, none, none] ∧ LamX.ExtN H Hc ∧ NdefX.TabsN TS Hc ∧ Hc D = some (.lst tvs) ∧ os.length = i ∧ (∀ (j : Nat) o cds, os[j]? = some o → css[j]? = some cds → Out k cds o) ∧ Zs (fun Ms v => ∃ b, v = .ref b ∧ b ≠ D ∧ MsAt Hc v Ms) tvs (os.filterMap id))
      ⟨none, none, [], [], rfl, .of s0, tabs.ext s0, upd_same, rfl, fun j o cds h => by simp at h, .nil⟩ (fun i σ Hc _ ⟨_, _, _, _, _, e, _⟩ => lt_eq hca e (.of s0)) ?_ ?_
    · rintro i x σ Hc Hc' hi ⟨v3, v4, tvs, os, rfl, e1, tb1, eD, lo, ho, zs⟩ ⟨rfl, ex⟩
      obtain ⟨cds, hcds, ⟨a, vs, rfl, ha, hz⟩⟩ := (CasesG.ext ⟨ca, cvs, rfl, hca, hcs⟩ e1).elim fun _ h => h.elim fun _ h => by
        obtain ⟨e, h1, h2⟩ := h
        cases e
        have h3 := Sq.uni (lt_sq (lt_ext hca e1)) (lt_sq h1)
        cases h3
        exact h2.at ex
      obtain ⟨lcd, okcd⟩ := okc cds (List.mem_of_getElem? hcds)
      refine normG (σ' := [some (.int (k : Nat)), some (.ref ca), some (.ref D), some (.ref a), v4, none, none]) rfl ?_
      refine any_var rfl (xs := vs) (lt_sq ha) (fun J2 wk2 => ?_)
      intro Dm hDm
      have nDm : Dm ≠ D := (ne_of_none eD hDm).symm
      refine lc_it wk2 (fun j Hx => ∃ (ys : List V) (As : List ZA.Aut), Hx Dm = some (.lst ys) ∧ LamX.ExtN Hc' Hx ∧ NdefX.TabsN TS Hx ∧ Zs (fun A v => MaT Hx v A) ys As ∧ As.length = j ∧ ∀ (n : Nat) A c, As[n]? = some A → cds[n]? = some c → Tells k A c)
        ⟨[], [], upd_same, ext_upd (.refl _) hDm, tb1.ext (same_new (Same.refl _) hDm), .nil, rfl, fun n A c h => by simp at h⟩ (fun j Hx _ ⟨_, _, _, e, _⟩ => lt_eq ha e (.refl _)) ?_ ?_
      · rintro j x Hx Hx' hj ⟨ys, As, eDm, e2, tb2, zA, lA, tA⟩ ⟨rfl, ex2⟩
        obtain ⟨c, hc, hcd⟩ := hz.at ex2
        refine ⟨rfl, yes_to ⟨_, rfl, x, c, k, rfl, hcd.kl (.ext e2), okcd c (List.mem_of_getElem? hc), k1, k4, tb2, fun v Hy A ey tby mt fw lg => ?_⟩⟩
        have eDy := ey _ _ eDm (fun _ z => by cases z)
        refine ⟨ys, eDy, szL _ ?_, ys ++ [v], As ++ [A], upd_same, ext_upd (e2.trans ey) hDm, tabs_upd tby eDy, ?_, by simp [lA], fun n B c' hB hc' => ?_⟩
        · rw [zA.1, lA]
          have := hz.1
          omega
        · exact (zA.imp fun _ _ q => MaT.kl (MaT.kl q (.ext ey)) (.upd eDy)).snoc (MaT.kl mt (.upd eDy))
        · by_cases z : n < As.length
          · rw [List.getElem?_append_left z] at hB
            exact tA n B c' hB hc'
          · have hn : n = As.length := by
              have := (List.getElem?_eq_some_iff.mp hB).1
              simp at this
              omega
            subst hn
            rw [List.getElem?_append_right (Nat.le_refl _), Nat.sub_self] at hB
            cases hB
            rw [lA, hc] at hc'
            cases hc'
            exact ⟨fw, lg⟩
      · rintro Hx ⟨ys, As, eDm, e2, tb2, zA, lA, tA⟩
        have lAs : As.length = cds.length := by rw [lA, hz.1]
        have fewA : ∀ A ∈ As, Few A (2 ^ k) 20 := fun A h => by
          obtain ⟨n, hn⟩ := List.mem_iff_getElem?.mp h
          have hl := (List.getElem?_eq_some_iff.mp hn).1
          exact (tA n A _ hn (List.getElem?_eq_getElem (by omega))).1
        have allA : ∀ u, As.all (fun A => A.lang 0 u) = saysAll k cds u := fun u => all_like lAs fun n A c hA hc => (tA n A c hA hc).2 u
        have eDx := e2 _ _ eD (fun _ z => by cases z)
        refine normG (σ' := [some (.int (k : Nat)), some (.ref ca), some (.ref D), some (.ref a), some (.ref Dm), none, none]) rfl ?_
        refine ⟨_, rfl, k, rfl, k1, k4, fun v0 H0 s0 one => ?_⟩
        have e02 := e2.trans (.of s0)
        refine ⟨_, rfl, maD (ZA.oneA (2 ^ k) false), As.map maD, one.dp, ?_, shaped_maD _, shaped_maDs _, _, rfl, ?_⟩
        · exact .lst (SqL.of (s0 _ _ eDm)) (dpAll_ms (zA.imp fun _ _ q => MaT.same q s0))
        refine ite2 (fun z => ?_) (fun z => ?_)
        · obtain ⟨pf, epf⟩ : ∃ pf : ZA.Aut → Bool, pf = fun A => !PyData.eqv (maD A) (maD (ZA.oneA (2 ^ k) true)) := ⟨_, rfl⟩
          refine ⟨_, rfl, .inl ⟨rfl, _, SqL.of (s0 _ _ eDx)⟩, any_var rfl (xs := ys) (.inl (s0 _ _ eDm)) (fun J3 wk3 => ?_)⟩
          intro Dk hDk
          refine lc_it wk3 (fun j Hy => ∃ ys2 : List V, Hy Dk = some (.lst ys2) ∧ Same H0 Hy ∧ Zs (fun A v => MaT Hy v A) ys2 ((As.take j).filter pf)) ⟨[], upd_same, same_new (Same.refl _) hDk, .nil⟩ (fun j Hy _ ⟨_, _, s, _⟩ => by rw [s _ _ (s0 _ _ eDm), s0 _ _ eDm]) ?_ ?_
          · rintro j x Hy Hy' hj ⟨ys2, eDk, sy, zy⟩ ⟨rfl, ex3⟩
            obtain ⟨A, hA, mA⟩ := zA.at ex3
            have mA' := MaT.same (MaT.same mA s0) sy
            have step : (As.take (j + 1)).filter pf = (As.take j).filter pf ++ if pf A = true then [A] else [] := by
              rw [List.take_add_one, hA, List.filter_append]
              congr 1
              by_cases y : pf A = true <;> simp [y]
            refine ⟨rfl, _, rfl, _, rfl, k, rfl, k1, k4, fun v1 H1 s1 one1 => ?_⟩
            refine ⟨maD A, maD (ZA.oneA (2 ^ k) true), MaT.dp (MaT.same mA' s1), one1.dp, shaped_maD _, shaped_maD _, _, rfl, ?_⟩
            have ep : (!PyData.eqv (maD A) (maD (ZA.oneA (2 ^ k) true))) = pf A := by rw [epf]
            rw [ep]
            refine ite2 (fun y => ?_) (fun y => ?_)
            · have eDk1 := s1 _ _ eDk
              have l2 := zy.1
              refine ⟨_, rfl, ys2, eDk1, szL _ ?_, ys2 ++ [x], upd_same, same_upd (sy.trans s1) hDk, ?_⟩
              · rw [l2]
                have := List.length_filter_le pf (As.take j)
                rw [List.length_take] at this
                omega
              · rw [step, if_pos y]
                exact (zy.imp fun _ _ q => MaT.kl (MaT.same q s1) (.upd eDk1)).snoc (MaT.kl (MaT.same mA' s1) (.upd eDk1))
            · refine ⟨ys2, s1 _ _ eDk, sy.trans s1, ?_⟩
              rw [step, if_neg y, List.append_nil]
              exact zy.imp fun _ _ q => MaT.same q s1
          · rintro Hy ⟨ys2, eDk, sy, zy⟩
            rw [zA.1, List.take_length] at zy
            have eDy := sy _ _ (s0 _ _ eDx)
            have nDk : Dk ≠ D := (ne_of_none (s0 _ _ eDx) hDk).symm
            have eD' : (os ++ [some (As.filter pf)]).filterMap id = os.filterMap id ++ [As.filter pf] := by rw [List.filterMap_append]; rfl
            have kl1 : KL Hc' (upd Hy D (.lst (tvs ++ [.ref Dk]))) := (KL.ext (e02.trans (.of sy))).trans (.upd eDy)
            refine ⟨D, tvs, _, rfl, rfl, eDy, szL _ ?_, _, _, tvs ++ [.ref Dk], os ++ [some (As.filter pf)], rfl, ?_, ?_, upd_same, by simp [lo], fun j o cds' hj hcds' => ?_, ?_⟩
            · rw [zs.1]
              have := List.length_filterMap_le id os
              have := hcs.1
              omega
            · exact ext_upd (e1.trans (e02.trans (.of sy))) hD
            · exact tabs_upd ((tb2.ext s0).ext sy) eDy
            · by_cases y : j < os.length
              · rw [List.getElem?_append_left y] at hj
                exact ho j o cds' hj hcds'
              · have hn : j = os.length := by
                  have := (List.getElem?_eq_some_iff.mp hj).1
                  simp at this
                  omega
                subst hn
                rw [List.getElem?_append_right (Nat.le_refl _), Nat.sub_self] at hj
                cases hj
                rw [lo, hcds] at hcds'
                cases hcds'
                refine ⟨by rw [← lAs]; exact List.length_filter_le _ _, fun A hA => fewA A (List.mem_filter.mp hA).1, fun u => ?_⟩
                rw [← allA u]
                refine all_filter fun A hA hp => ?_
                have e3 : PyData.eqv (maD A) (maD (ZA.oneA (2 ^ k) true)) = true := by
                  rw [epf] at hp
                  simpa using hp
                exact one_is (fewA A hA).wd e3 u
            · rw [eD']
              refine Zs.snoc (x := As.filter pf) (v := .ref Dk) (zs.imp ?_) ?_
              · rintro Ms v ⟨b, rfl, ne, a', vs', e', h1, h2⟩
                cases e'
                refine ⟨b, rfl, ne, b, vs', rfl, ?_, h2.imp fun _ _ q => MaT.kl q kl1⟩
                rw [upd_ne ne]
                exact sy _ _ (e02 _ _ h1 (fun _ z => by cases z))
              · refine ⟨Dk, rfl, nDk, Dk, ys2, rfl, ?_, zy.imp fun _ _ q => MaT.kl q (.upd eDy)⟩
                rw [upd_ne nDk]
                exact eDk
        · have eD' : (os ++ [none]).filterMap id = os.filterMap id := by rw [List.filterMap_append]; simp
          refine ⟨_, _, tvs, os ++ [none], rfl, e1.trans e02, tb2.ext s0, s0 _ _ eDx, by simp [lo], fun j o cds' hj hcds' => ?_, ?_⟩
          · by_cases y : j < os.length
            · rw [List.getElem?_append_left y] at hj
              exact ho j o cds' hj hcds'
            · have hn : j = os.length := by
                have := (List.getElem?_eq_some_iff.mp hj).1
                simp at this
                omega
              subst hn
              rw [List.getElem?_append_right (Nat.le_refl _), Nat.sub_self] at hj
              cases hj
              rw [lo, hcds] at hcds'
              cases hcds'
              intro u
              rw [← allA u]
              have z2 : ((As.map maD).any fun z => PyData.eqv z (maD (ZA.oneA (2 ^ k) false))) = true := by simpa using z
              rw [List.any_map, List.any_eq_true] at z2
              obtain ⟨A, hA, e3⟩ := z2
              have := one_is (fewA A hA).wd e3 u
              exact List.all_eq_false.mpr ⟨A, hA, by rw [this]; decide⟩
          · rw [eD']
            exact zs.imp fun Ms v ⟨b, e, ne, h⟩ => ⟨b, e, ne, h.ext e02⟩
    · rintro σ Hc ⟨v3, v4, tvs, os, rfl, e1, tb1, eD, lo, ho, zs⟩
      refine ⟨_, rfl, q (.ref D) Hc os e1 tb1 (lo.trans hcs.1) ho ⟨D, tvs, rfl, eD, zs.imp fun _ _ ⟨_, _, _, h⟩ => h⟩⟩
end
end K01
set_option maxHeartbeats 4000000
namespace K01
open PySem PySem.Spec PyProof.Rows L2 Z
theorem sqT_same {K : PySem.W.Frag} {H H' : Hp} {a : Addr} {xs : List V} (h : SqT K H a xs) (s : Same H H') : SqT K H' a xs := h.imp (fun h => h.imp (fun h => s _ _ h) fun ⟨o, h⟩ => ⟨o, s _ _ h⟩) id
theorem KpAt.same {K : PySem.W.Frag} {H H' : Hp} {k : Addr} {keep : Bool → Bool → Bool} (h : KpAt K H k keep) (s : Same H H') : KpAt K H' k keep := let ⟨p, q, a, b, c⟩ := h; ⟨p, q, sqT_same a s, sqT_same b s, sqT_same c s⟩
def spJoined (K : PySem.W.Frag) : Sp := fun vs H Q _ => ∃ (v1 v2 : V) (k : Addr) (A B : ZA.Aut) (keep : Bool → Bool → Bool), vs = [v1, v2, .ref k] ∧ MaT H v1 A ∧ MaT H v2 B ∧ KpAt K H k keep ∧ A.Ok ∧ B.Ok ∧ A.w = B.w ∧ 0 < A.n ∧ 0 < B.n ∧ A.n ≤ 400 ∧ B.n ≤ 400 ∧ (∃ P, Pairs A B P ∧ P.length ≤ 400) ∧ 2 ≤ A.w ∧ A.w ≤ 1000 ∧
  ∀ v M H', Same H H' → MaT H' v M → ZA.Least M (fun u => keep (A.lang 0 u) (B.lang 0 u)) → Few M A.w 400 → Q v H'
def InAll (w' : Nat) (Ms : List ZA.Aut) (M : ZA.Aut) : Prop := Few M w' 400 ∧ (∀ u, M.lang 0 u = Ms.all fun A => A.lang 0 u) ∧ (Ms.length = 1 → M.n ≤ 20) ∧ (Ms.length = 2 → ZA.Apart M)
def spInAll : Sp := fun vs H Q _ => ∃ (v : V) (Ms : List ZA.Aut) (w' : Nat), vs = [v] ∧ MsAt H v Ms ∧ 1 ≤ Ms.length ∧ Ms.length ≤ 2 ∧ (∀ M ∈ Ms, Few M w' 20) ∧ 2 ≤ w' ∧ w' ≤ 1000 ∧ ∀ v' H' M, Same H H' → MaT H' v' M → InAll w' Ms M → Q v' H'
/-- two of the three read the same -/
def Sm3 (A B C : ZA.Aut) : Prop := (∀ u, C.lang 0 u = A.lang 0 u) ∨ (∀ u, C.lang 0 u = B.lang 0 u) ∨ ∀ u, A.lang 0 u = B.lang 0 u
theorem Sm3.pairs {A B C M : ZA.Aut} {w' : Nat} {keep : Bool → Bool → Bool} (s : Sm3 A B C) (fA : Few A w' 20) (fB : Few B w' 20) (fC : Few C w' 20) (fM : Few M w' 400) (lst : ZA.Least M (fun u => keep (A.lang 0 u) (B.lang 0 u))) : ∃ P, Pairs M C P ∧ P.length ≤ 400 := by
  have go : ∀ (b : ZA.Aut) (kf : Bool → Bool → Bool), Few b w' 20 → (∀ u, M.lang 0 u = kf (C.lang 0 u) (b.lang 0 u)) → ∃ P, Pairs M C P ∧ P.length ≤ 400 := fun b kf fb h => by
    obtain ⟨P1, hP1, lP1⟩ := ZA.pairs_by (M := M) (N := C) (b := b) fM.ok fC.ok fb.ok (fM.wd.trans fC.wd.symm) (fC.wd.trans fb.wd.symm) lst.apart fM.pos fC.pos fb.pos kf h
    exact ⟨P1, ⟨hP1.1, hP1.2.1, hP1.2.2⟩, Nat.le_trans lP1 (Nat.le_trans (Nat.mul_le_mul fC.few fb.few) (by decide))⟩
  rcases s with s | s | s
  · exact go B keep fB fun u => by rw [lst.lang u, s u]
  · exact go A (fun c a => keep a c) fA fun u => by rw [lst.lang u, s u]
  · exact go A (fun _ a => keep a a) fA fun u => by rw [lst.lang u, s u]
def JOk (w' : Nat) : List ZA.Aut → Prop
  | [A] => Few A w' 400
  | [A, B] => Few A w' 400 ∧ Few B w' 400 ∧ ∃ P, Pairs A B P ∧ P.length ≤ 400
  | [A, B, C] => Few A w' 20 ∧ Few B w' 20 ∧ Few C w' 20 ∧ Sm3 A B C
  | _ => False
def JSays (keep : Bool → Bool → Bool) (u : List Nat) : List ZA.Aut → Bool
  | [A] => A.lang 0 u
  | [A, B] => keep (A.lang 0 u) (B.lang 0 u)
  | [A, B, C] => keep (keep (A.lang 0 u) (B.lang 0 u)) (C.lang 0 u)
  | _ => false
def spJAtL (K : PySem.W.Frag) : Sp := fun vs H Q _ => ∃ (v : V) (ka : Addr) (Ms : List ZA.Aut) (w' : Nat) (keep : Bool → Bool → Bool), vs = [v, .ref ka] ∧ MsAt H v Ms ∧ KpAt K H ka keep ∧ JOk w' Ms ∧ 2 ≤ w' ∧ w' ≤ 1000 ∧ ∀ v' H' C, Same H H' → MaS H' v' C → Few C w' 400 → (∀ u, C.lang 0 u = JSays keep u Ms) → Q v' H'
section
variable {P : Program} {w : World} {K : PySem.W.Frag} {mg : Str → Option Value} {base : Heap}
theorem sc_joined : FnScope ["one", "other", "keep", "rows", "ends"] ["one", "other", "keep"] (defScope s_joined) := ⟨rfl, rfl, rfl, by decide +kernel, rfl, by decide +kernel, by decide +kernel⟩
theorem ok_joined {f : Addr} {fd : FuncData} (F : FnP K "joined" s_joined f fd) (T : Nb mg) (dJoinF : Dn P w K mg base 3 "joined_freely" ["one", "other", "keep"] (spJoinF K)) (dMinimal : Dn P w K mg base 3 "minimal" ["rows", "ends"] spMinimal) :
    FnOk P w K mg base CX0 4 f fd ["one", "other", "keep"] (spJoined K) := by
  refine F.ok sc_joined (fun vs H Q E h => ?_) (fun cdv A outer s H vs Q E hr h => ?_)
  · obtain ⟨v1, v2, k, M, N, keep, rfl, _⟩ := h
    rfl
  · obtain ⟨v1, v2, k, M, N, keep, rfl, h1, h2, hk, ok1, ok2, ww, n1, n2, hn1, hn2, hP, w2, hw, q⟩ := h
    refine ⟨_, PSs.nox (pss_cons (ps_asg (pe_dn dJoinF hr (pa_cons (pv 0) (pa_cons (pv 1) (pa_cons (pv 2) pa_nil)))) (pg_tup (by rfl) (pgs_cons (pg_name (i := 3) sc_joined.nd rfl (.inl rfl)) (pgs_cons (pg_name (i := 4) sc_joined.nd rfl (.inl rfl)) pgs_nil))))
      (pss_one (ps_ret (pe_dn dMinimal hr (pa_cons (pv 3) (pa_cons (pv 4) pa_nil)))))), ?_⟩
    refine ⟨_, rfl, _, rfl, _, rfl, v1, v2, k, M, N, keep, rfl, h1, h2, hk, ok1, ok2, ww, n1, n2, hn1, hn2, hP, w2, hw, fun t C H1 s1 ms okC wC c0 c4 lg => ?_⟩
    obtain ⟨m, r, e, em, hm, hR, hE⟩ := ms
    cases em
    refine ⟨t, _, rfl, SqT.of hm, rfl, _, _, rfl, _, _, rfl, rfl, ?_⟩
    refine norm (N := fun σ _ => _) (σ' := [some v1, some v2, some (.ref k), some (.ref r), some (.ref e)]) rfl ?_
    refine ⟨_, rfl, _, rfl, r, e, C, rfl, hR, hE, okC, c0, c4, by omega, fun v H' M' met s2 mt td => q v M' H' (s1.trans s2) mt ⟨C, met, okC, c0, td, lg⟩ ⟨td.ok okC, td.pos, Nat.le_trans td.few c4, td.wd.trans wC⟩⟩
theorem sc_in_all : FnScope ["machines", "told", "machine"] ["machines"] (defScope s_in_all) := ⟨rfl, rfl, rfl, by decide +kernel, rfl, by decide +kernel, by decide +kernel⟩
theorem ok_inAll {f : Addr} {fd : FuncData} {kb : Addr} (F : FnP K "in_all" s_in_all f fd) (T : Nb mg) (hBOTH : mg "BOTH" = some (.ref kb)) (hKB : ∀ H, KpAt K H kb fun a b => a && b) (dJoin : Dn P w K mg base 4 "joined" ["one", "other", "keep"] (spJoined K)) :
    FnOk P w K mg base CX0 5 f fd ["machines"] spInAll := by
  refine F.ok sc_in_all (fun vs H Q E h => ?_) (fun cdv A outer s H vs Q E hr h => ?_)
  · obtain ⟨v, Ms, w', rfl, _⟩ := h
    rfl
  · obtain ⟨v, Ms, w', rfl, ⟨a, vs, rfl, ha, hz⟩, l1, l2, fw, w2, wm, q⟩ := h
    refine ⟨_, PSs.nox (pss_cons (ps_set (i := 1) sc_in_all.nd rfl (Or.inl rfl) (pe_ix (ix_anyK (K := K) rfl) (pv 0) pe_int (fun _ _ => rfl)))
      (pss_cons (ps_for PassesOwn.never rfl (pi_list (pe_slice sl_list (pv 0) (po_some pe_int) po_none)) (pg_name (i := 2) sc_in_all.nd rfl (.inl rfl)) (pss_one (ps_set (i := 1) sc_in_all.nd rfl (Or.inl rfl) (pe_dn dJoin hr (pa_cons (pv 1) (pa_cons (pv 2) (pa_cons (pe_glob (v := .ref kb) rfl hBOTH rfl) pa_nil)))))))
      (pss_one (ps_ret (pv 1))))), ?_⟩
    match Ms, vs, hz, ha, l1, l2, fw, q with
    | [A1], [va], hz, ha, _, _, fw, q =>
      have mA := hz.2 0 va A1 rfl rfl
      have fA := fw A1 (by simp)
      refine ⟨_, rfl, a, _, _, va, rfl, rfl, .inl (SqL.of ha), at0, ?_⟩
      refine normG (σ' := [some (.ref a), some va, none]) rfl ?_
      refine ⟨_, rfl, _, rfl, a, _, rfl, SqL.of ha, fun p hp => ⟨p, rfl, ⟨_, SqL.of upd_same⟩, ?_⟩⟩
      have s1 := same_new (o := .lst (cutV [va] (some 1) none)) (Same.refl H) hp
      refine for_it (walk_list (K := K) (a := p) (xs := [])) (fun i σ H' => σ = [some (.ref a), some va, none] ∧ H' = upd H p (.lst [])) ⟨rfl, rfl⟩ (fun i σ H' _ ⟨_, e⟩ => by rw [e]; exact SqL.of upd_same) ?_ ?_
      · rintro i x σ H2 H3 hi _ _
        exact absurd hi (Nat.not_lt_zero _)
      · rintro σ H2 ⟨rfl, rfl⟩
        refine ⟨_, rfl, q va _ A1 s1 (MaT.same mA s1) ⟨⟨fA.ok, fA.pos, Nat.le_trans fA.few (by decide), fA.wd⟩, fun u => (by simp), fun _ => fA.few, fun h => (by cases h)⟩⟩
    | [A1, B1], [va, vb], hz, ha, _, _, fw, q =>
      have mA := hz.2 0 va A1 rfl rfl
      have mB := hz.2 1 vb B1 rfl rfl
      have fA := fw A1 (by simp)
      have fB := fw B1 (by simp)
      refine ⟨_, rfl, a, _, _, va, rfl, rfl, .inl (SqL.of ha), at0, ?_⟩
      refine normG (σ' := [some (.ref a), some va, none]) rfl ?_
      refine ⟨_, rfl, _, rfl, a, _, rfl, SqL.of ha, fun p hp => ⟨p, rfl, ⟨_, SqL.of upd_same⟩, ?_⟩⟩
      have s1 := same_new (o := .lst (cutV [va, vb] (some 1) none)) (Same.refl H) hp
      refine for_it (walk_list (K := K) (a := p) (xs := [vb])) (fun i σ H' => Same (upd H p (.lst [vb])) H' ∧ ((i = 0 ∧ σ = [some (.ref a), some va, none]) ∨ (i = 1 ∧ ∃ v M, σ = [some (.ref a), some v, some vb] ∧ MaT H' v M ∧ InAll w' [A1, B1] M))) ⟨Same.refl _, .inl ⟨rfl, rfl⟩⟩ (fun i σ H' _ ⟨e, _⟩ => SqL.of (e _ _ upd_same)) ?_ ?_
      · rintro i x σ H2 H3 hi ⟨s2, h2⟩ ⟨rfl, ex⟩
        have hi0 : i = 0 := by simp at hi; omega
        subst hi0
        rcases h2 with ⟨_, rfl⟩ | ⟨h, _⟩
        · cases ex
          have s12 := s1.trans s2
          refine normG (σ' := [some (.ref a), some va, some vb]) rfl ?_
          obtain ⟨P1, hP1, lP1⟩ := pairs_all fA.ok fB.ok (fA.wd.trans fB.wd.symm) fA.pos fB.pos
          have lP : A1.n * B1.n ≤ 400 := Nat.le_trans (Nat.mul_le_mul fA.few fB.few) (by decide)
          have w2A : 2 ≤ A1.w := by rw [fA.wd]; exact w2
          have wmA : A1.w ≤ 1000 := by rw [fA.wd]; exact wm
          refine ⟨_, rfl, _, rfl, va, vb, kb, A1, B1, (fun a b => a && b), rfl, MaT.same mA s12, MaT.same mB s12, hKB _, fA.ok, fB.ok, fA.wd.trans fB.wd.symm, fA.pos, fB.pos, Nat.le_trans fA.few (by decide), Nat.le_trans fB.few (by decide), ⟨P1, hP1, by omega⟩, w2A, wmA, fun v M H' s3 mt lst fM => ⟨s2.trans s3, .inr ⟨rfl, v, M, rfl, mt, ?_⟩⟩⟩
          rw [fA.wd] at fM
          exact ⟨fM, fun u => (by rw [lst.lang u]; simp), fun h => (by cases h), fun _ => lst.apart⟩
        · cases h
      · rintro σ H2 ⟨s2, h2⟩
        rcases h2 with ⟨h, _⟩ | ⟨_, v, M, rfl, mt, im⟩
        · cases h
        · exact ⟨_, rfl, q v _ M (s1.trans s2) mt im⟩
theorem sc_joined_at_last : FnScope ["machines", "keep", "told", "machine"] ["machines", "keep"] (defScope s_joined_at_last) := ⟨rfl, rfl, rfl, by decide +kernel, rfl, by decide +kernel, by decide +kernel⟩
theorem ok_jAtL {f : Addr} {fd : FuncData} (F : FnP K "joined_at_last" s_joined_at_last f fd) (T : Nb mg) (dJoin : Dn P w K mg base 4 "joined" ["one", "other", "keep"] (spJoined K)) (dJoinF : Dn P w K mg base 3 "joined_freely" ["one", "other", "keep"] (spJoinF K)) :
    FnOk P w K mg base CX0 5 f fd ["machines", "keep"] (spJAtL K) := by
  refine F.ok sc_joined_at_last (fun vs H Q E h => ?_) (fun cdv A outer s H vs Q E hr h => ?_)
  · obtain ⟨v, ka, Ms, w', keep, rfl, _⟩ := h
    rfl
  · obtain ⟨v, ka, Ms, w', keep, rfl, ⟨a, vs, rfl, ha, hz⟩, hk, jo, w2, wm, q⟩ := h
    refine ⟨_, PSs.nox (pss_cons (ps_set (i := 2) sc_joined_at_last.nd rfl (Or.inl rfl) (pe_ix (ix_anyK (K := K) rfl) (pv 0) pe_int (fun _ _ => rfl)))
      (pss_cons (ps_for PassesOwn.never rfl (pi_list (pe_slice sl_list (pv 0) (po_some pe_int) (po_some (pe_un un_neg pe_int)))) (pg_name (i := 3) sc_joined_at_last.nd rfl (.inl rfl)) (pss_one (ps_set (i := 2) sc_joined_at_last.nd rfl (Or.inl rfl) (pe_dn dJoin hr (pa_cons (pv 2) (pa_cons (pv 3) (pa_cons (pv 1) pa_nil)))))))
      (pss_one (ps_ret (pe_ifExp (pt_cmpR op_gt (pe_callB (call_lenA (K := K) rfl) (by rfl) T.len PySem.boot_len (pa_cons (pv 0) pa_nil)) pe_int (nomark _)) (pe_dn dJoinF hr (pa_cons (pv 2) (pa_cons (pe_ix (ix_anyK (K := K) rfl) (pv 0) (pe_un un_neg pe_int) (fun _ _ => rfl)) (pa_cons (pv 1) pa_nil)))) (pv 2)))))), ?_⟩
    match Ms, vs, hz, ha, jo, q with
    | [A1], [va], hz, ha, fA, q =>
      have mA := hz.2 0 va A1 rfl rfl
      refine ⟨_, rfl, a, _, _, va, rfl, rfl, .inl (SqL.of ha), at0, ?_⟩
      refine normG (σ' := [some (.ref a), some (.ref ka), some va, none]) rfl ?_
      refine ⟨_, rfl, 1, rfl, _, rfl, _, rfl, a, _, rfl, SqL.of ha, fun p hp => ⟨p, rfl, ⟨_, SqL.of upd_same⟩, ?_⟩⟩
      have s1 := same_new (o := .lst (cutV [va] (some 1) (some (-1)))) (Same.refl H) hp
      refine for_it (walk_list (K := K) (a := p) (xs := [])) (fun i σ H' => σ = [some (.ref a), some (.ref ka), some va, none] ∧ H' = upd H p (.lst [])) ⟨rfl, rfl⟩ (fun i σ H' _ ⟨_, e⟩ => by rw [e]; exact SqL.of upd_same) ?_ ?_
      · rintro i x σ H2 H3 hi _ _
        exact absurd hi (Nat.not_lt_zero _)
      · rintro σ H2 ⟨rfl, rfl⟩
        refine ⟨_, rfl, a, _, rfl, .inl (SqL.of (s1 _ _ ha)), _, _, rfl, rfl, _, rfl, if_no rfl ⟨_, rfl, q va _ A1 s1 (MaS.same mA.s s1) fA fun u => rfl⟩⟩
    | [A1, B1], [va, vb], hz, ha, ⟨fA, fB, hP⟩, q =>
      have mA := hz.2 0 va A1 rfl rfl
      have mB := hz.2 1 vb B1 rfl rfl
      refine ⟨_, rfl, a, _, _, va, rfl, rfl, .inl (SqL.of ha), at0, ?_⟩
      refine normG (σ' := [some (.ref a), some (.ref ka), some va, none]) rfl ?_
      refine ⟨_, rfl, 1, rfl, _, rfl, _, rfl, a, _, rfl, SqL.of ha, fun p hp => ⟨p, rfl, ⟨_, SqL.of upd_same⟩, ?_⟩⟩
      have s1 := same_new (o := .lst (cutV [va, vb] (some 1) (some (-1)))) (Same.refl H) hp
      refine for_it (walk_list (K := K) (a := p) (xs := [])) (fun i σ H' => σ = [some (.ref a), some (.ref ka), some va, none] ∧ H' = upd H p (.lst [])) ⟨rfl, rfl⟩ (fun i σ H' _ ⟨_, e⟩ => by rw [e]; exact SqL.of upd_same) ?_ ?_
      · rintro i x σ H2 H3 hi _ _
        exact absurd hi (Nat.not_lt_zero _)
      · rintro σ H2 ⟨rfl, rfl⟩
        have ww : A1.w = B1.w := fA.wd.trans fB.wd.symm
        have w2A : 2 ≤ A1.w := by rw [fA.wd]; exact w2
        have wmA : A1.w ≤ 1000 := by rw [fA.wd]; exact wm
        refine ⟨_, rfl, a, _, rfl, .inl (SqL.of (s1 _ _ ha)), _, _, rfl, rfl, _, rfl, if_yes rfl ⟨_, rfl, _, rfl, 1, rfl, a, _, _, vb, rfl, rfl, .inl (SqL.of (s1 _ _ ha)), rfl, _, rfl, ?_⟩⟩
        exact ⟨va, vb, ka, A1, B1, keep, rfl, MaT.same mA s1, MaT.same mB s1, hk.same s1, fA.ok, fB.ok, ww, fA.pos, fB.pos, fA.few, fB.few, hP, w2A, wmA, fun t C H3 s3 ms okC wC c0 c4 lg => q _ H3 C (s1.trans s3) ms ⟨okC, c0, c4, wC.trans fA.wd⟩ lg⟩
    | [A1, B1, C1], [va, vb, vc], hz, ha, ⟨fA, fB, fC, sm⟩, q =>
      have mA := hz.2 0 va A1 rfl rfl
      have mB := hz.2 1 vb B1 rfl rfl
      have mC := hz.2 2 vc C1 rfl rfl
      refine ⟨_, rfl, a, _, _, va, rfl, rfl, .inl (SqL.of ha), at0, ?_⟩
      refine normG (σ' := [some (.ref a), some (.ref ka), some va, none]) rfl ?_
      refine ⟨_, rfl, 1, rfl, _, rfl, _, rfl, a, _, rfl, SqL.of ha, fun p hp => ⟨p, rfl, ⟨_, SqL.of upd_same⟩, ?_⟩⟩
      have s1 := same_new (o := .lst (cutV [va, vb, vc] (some 1) (some (-1)))) (Same.refl H) hp
      have ww : A1.w = B1.w := fA.wd.trans fB.wd.symm
      have w2A : 2 ≤ A1.w := by rw [fA.wd]; exact w2
      have wmA : A1.w ≤ 1000 := by rw [fA.wd]; exact wm
      refine for_it (walk_list (K := K) (a := p) (xs := [vb])) (fun i σ H' => Same (upd H p (.lst [vb])) H' ∧ ((i = 0 ∧ σ = [some (.ref a), some (.ref ka), some va, none]) ∨ (i = 1 ∧ ∃ v M, σ = [some (.ref a), some (.ref ka), some v, some vb] ∧ MaT H' v M ∧ Few M w' 400 ∧ ZA.Least M (fun u => keep (A1.lang 0 u) (B1.lang 0 u))))) ⟨Same.refl _, .inl ⟨rfl, rfl⟩⟩ (fun i σ H' _ ⟨e, _⟩ => SqL.of (e _ _ upd_same)) ?_ ?_
      · rintro i x σ H2 H3 hi ⟨s2, h2⟩ ⟨rfl, ex⟩
        have hi0 : i = 0 := by simp at hi; omega
        subst hi0
        rcases h2 with ⟨_, rfl⟩ | ⟨h, _⟩
        · cases ex
          have s12 := s1.trans s2
          refine normG (σ' := [some (.ref a), some (.ref ka), some va, some vb]) rfl ?_
          obtain ⟨P1, hP1, lP1⟩ := pairs_all fA.ok fB.ok ww fA.pos fB.pos
          have lP : A1.n * B1.n ≤ 400 := Nat.le_trans (Nat.mul_le_mul fA.few fB.few) (by decide)
          refine ⟨_, rfl, _, rfl, _, rfl, va, vb, ka, A1, B1, keep, rfl, MaT.same mA s12, MaT.same mB s12, hk.same s12, fA.ok, fB.ok, ww, fA.pos, fB.pos, Nat.le_trans fA.few (by decide), Nat.le_trans fB.few (by decide), ⟨P1, hP1, by omega⟩, w2A, wmA, fun v M H' s3 mt lst fM => ⟨s2.trans s3, .inr ⟨rfl, v, M, rfl, mt, ?_, lst⟩⟩⟩
          rw [fA.wd] at fM
          exact fM
        · cases h
      · rintro σ H2 ⟨s2, h2⟩
        rcases h2 with ⟨h, _⟩ | ⟨_, v, M, rfl, mt, fM, lst⟩
        · cases h
        · have s12 := s1.trans s2
          have pMC := sm.pairs fA fB fC fM lst
          have w2M : 2 ≤ M.w := by rw [fM.wd]; exact w2
          have wmM : M.w ≤ 1000 := by rw [fM.wd]; exact wm
          refine ⟨_, rfl, a, _, rfl, .inl (SqL.of (s12 _ _ ha)), _, _, rfl, rfl, _, rfl, if_yes rfl ⟨_, rfl, _, rfl, 1, rfl, a, _, _, vc, rfl, rfl, .inl (SqL.of (s12 _ _ ha)), rfl, _, rfl, ?_⟩⟩
          exact ⟨v, vc, ka, M, C1, keep, rfl, mt, MaT.same mC s12, hk.same s12, fM.ok, fC.ok, fM.wd.trans fC.wd.symm, fM.pos, fC.pos, fM.few, Nat.le_trans fC.few (by decide), pMC, w2M, wmM, fun t C H3 s3 ms okC wC c0 c4 lg => q _ H3 C (s12.trans s3) ms ⟨okC, c0, c4, wC.trans fM.wd⟩ fun u => by rw [lg u, lst.lang u]; rfl⟩
end
end K01
set_option maxHeartbeats 4000000
namespace K01
open PySem PySem.Spec PyProof.Rows L2 Z
def Fit (w' : Nat) (Mss : List (List ZA.Aut)) : Prop := (∀ Ms ∈ Mss, ∀ M ∈ Ms, Few M w' 20) ∧ ([] ∈ Mss ∨ Mss = [] ∨ (∃ Ms, Mss = [Ms] ∧ Ms.length ≤ 2) ∨ (∃ A B, Mss = [[A], [B]]) ∨
  (∃ c1 c2, Mss = [c1, c2] ∧ c1.length ≤ 2 ∧ c2.length ≤ 2 ∧ ∀ u, c1.all (fun M => M.lang 0 u) = c2.all (fun M => M.lang 0 u)) ∨ ∃ A B C, Mss = [[A], [B], [C]] ∧ Sm3 A B C)
def anyAll (Mss : List (List ZA.Aut)) (u : List Nat) : Bool := Mss.any fun Ms => Ms.all fun M => M.lang 0 u
def spMOfC : Sp := fun vs H Q _ => ∃ (k : Nat) (v : V) (Mss : List (List ZA.Aut)), vs = [.int (k : Nat), v] ∧ MssAt H v Mss ∧ 1 ≤ k ∧ k ≤ 4 ∧ Fit (2 ^ k) Mss ∧ ∀ v' H' C, Same H H' → MaS H' v' C → Few C (2 ^ k) 400 → (∀ u, C.lang 0 u = anyAll Mss u) → Q v' H'
def spLab : Sp := fun vs H Q _ => ∃ (v : V) (Mss : List (List ZA.Aut)) (w' : Nat), vs = [v] ∧ MssAt H v Mss ∧ (∀ Ms ∈ Mss, ∀ M ∈ Ms, Few M w' 20) ∧ (Mss.map List.length).sum ≤ 4 ∧ Q (.bl false) H
def dss (Mss : List (List ZA.Aut)) : PyData := .list (Mss.map fun Ms => .list (Ms.map maD))
theorem MsAt.dp {K : PySem.W.Frag} {H : Hp} {v : V} {Ms : List ZA.Aut} (h : MsAt H v Ms) : Dp K H v (.list (Ms.map maD)) := by
  obtain ⟨a, vs, rfl, h1, h2⟩ := h
  exact .lst (SqL.of h1) (dpAll_ms h2)
theorem dpAll_mss {K : PySem.W.Frag} {H : Hp} : ∀ {ys : List V} {Mss : List (List ZA.Aut)}, Zs (fun Ms v => MsAt H v Ms) ys Mss → DpAll K H ys (Mss.map fun Ms => .list (Ms.map maD))
  | [], [], _ => .nil
  | [], _ :: _, h => by cases h.1
  | _ :: _, [], h => by cases h.1
  | v :: ys, A :: As, h => .cons (MsAt.dp (h.2 0 v A rfl rfl)) (dpAll_mss ⟨by simpa using h.1, fun i v x a b => h.2 (i + 1) v x a b⟩)
theorem MssAt.dp {K : PySem.W.Frag} {H : Hp} {v : V} {Mss : List (List ZA.Aut)} (h : MssAt H v Mss) : Dp K H v (dss Mss) := by
  obtain ⟨a, vs, rfl, h1, h2⟩ := h
  exact .lst (SqL.of h1) (dpAll_mss h2)
theorem lay_mss : ∀ u : List (List ZA.Aut), PyData.canLayAll0 (u.map fun Ms => PyData.list (Ms.map maD)) = true
  | [] => by simp [PyData.canLayAll0]
  | A :: u => by simp [PyData.canLayAll0, PyData.canLay0, lay_maDs A, lay_mss u]
theorem dep_mss : ∀ u : List (List ZA.Aut), PyData.depthAll (u.map fun Ms => PyData.list (Ms.map maD)) ≤ 4
  | [] => by simp [PyData.depthAll]
  | A :: u => by
    have := dep_mss u
    have := dep_maDs A
    simp only [List.map_cons, PyData.depthAll, PyData.depth]
    omega
theorem shaped_mss (u : List (List ZA.Aut)) : SeqAt.shaped (dss u) = true := by
  have := dep_mss u
  unfold SeqAt.shaped dss
  rw [PyData.canLay0, lay_mss, PyData.depth]
  simp
  omega
theorem any_nil : ∀ Mss : List (List ZA.Aut), ((Mss.map fun Ms => PyData.list (Ms.map maD)).any fun z => PyData.eqv z (.list [])) = Mss.any List.isEmpty
  | [] => rfl
  | [] :: Mss => by
    have ih := any_nil Mss
    simp [PyData.eqv, PyData.eqvAll]
  | (M :: Ms) :: Mss => by
    have ih := any_nil Mss
    rw [List.map_cons, List.any_cons, ih]
    simp [PyData.eqv, PyData.eqvAll]
theorem sum_take (l : List Nat) (i : Nat) : (l.take i).sum ≤ l.sum := by
  have : l.sum = (l.take i).sum + (l.drop i).sum := by rw [← List.sum_append, List.take_append_drop]
  omega
theorem sum_step {l : List Nat} {i n : Nat} (h : l[i]? = some n) : (l.take (i + 1)).sum = (l.take i).sum + n := by
  rw [List.take_add_one, h, List.sum_append]
  simp
theorem jok2 {w' : Nat} {c1 c2 : List ZA.Aut} {N1 N2 : ZA.Aut} (i1 : InAll w' c1 N1) (i2 : InAll w' c2 N2) (h : (c1.length = 1 ∧ c2.length = 1) ∨ ((c1.length = 2 ∨ c2.length = 2) ∧ ∀ u, N1.lang 0 u = N2.lang 0 u)) : JOk w' [N1, N2] := by
  obtain ⟨f1, l1, a1, b1⟩ := i1
  obtain ⟨f2, l2, a2, b2⟩ := i2
  have ww := f1.wd.trans f2.wd.symm
  refine ⟨f1, f2, ?_⟩
  rcases h with ⟨h1, h2⟩ | ⟨h | h, e⟩
  · obtain ⟨P1, hP1, lP1⟩ := pairs_all f1.ok f2.ok ww f1.pos f2.pos
    exact ⟨P1, hP1, by rw [lP1]; exact Nat.le_trans (Nat.mul_le_mul (a1 h1) (a2 h2)) (by decide)⟩
  · obtain ⟨P1, hP1, lP1⟩ := ZA.pairs_same f1.ok f2.ok ww (b1 h) f1.pos f2.pos e
    exact ⟨P1, ⟨hP1.1, hP1.2.1, hP1.2.2⟩, Nat.le_trans lP1 f2.few⟩
  · obtain ⟨P1, ⟨z, i, g⟩, lP1⟩ := ZA.pairs_same f2.ok f1.ok ww.symm (b2 h) f2.pos f1.pos fun u => (e u).symm
    refine ⟨P1.map fun q => (q.2, q.1), ⟨List.mem_map.mpr ⟨(0, 0), z, rfl⟩, fun s t h => ?_, fun s t h c hc => ?_⟩, by rw [List.length_map]; exact Nat.le_trans lP1 f1.few⟩
    · obtain ⟨⟨x, y⟩, hq, eq⟩ := List.mem_map.mp h
      cases eq
      exact ⟨(i _ _ hq).2, (i _ _ hq).1⟩
    · obtain ⟨⟨x, y⟩, hq, eq⟩ := List.mem_map.mp h
      cases eq
      exact List.mem_map.mpr ⟨_, g _ _ hq c (by rw [← ww]; exact hc), rfl⟩
section
variable {P : Program} {w : World} {K : PySem.W.Frag} {mg : Str → Option Value} {base : Heap}
theorem sc_is_laborious : FnScope ["cases", "told", "case", "machine"] ["cases"] (defScope s_is_laborious) := ⟨rfl, rfl, rfl, by decide +kernel, rfl, by decide +kernel, by decide +kernel⟩
theorem ok_lab {f : Addr} {fd : FuncData} (F : FnP K "is_laborious" s_is_laborious f fd) (T : Nb mg) (hl : ∃ t, mg "LABORIOUS" = some (.int 1000000 t)) : FnOk P w K mg base CX0 1 f fd ["cases"] spLab := by
  refine F.ok sc_is_laborious (fun vs H Q E h => ?_) (fun cdv A outer s H vs Q E hr h => ?_)
  · obtain ⟨v, Mss, w', rfl, _⟩ := h
    rfl
  · obtain ⟨v, Mss, w', rfl, ⟨a, vs, rfl, ha, hz⟩, fw, l4, q⟩ := h
    obtain ⟨tLABORIOUS, hLABORIOUS⟩ := hl
    refine ⟨_, PSs.nox (pss_cons (ps_set (i := 1) sc_is_laborious.nd rfl (Or.inl rfl) pe_int)
      (pss_cons (ps_for PassesOwn.never rfl (pi_anyK (K := K) rfl (pv 0)) (pg_name (i := 2) sc_is_laborious.nd rfl (.inl rfl)) (pss_one (ps_for PassesOwn.never rfl (pi_anyK (K := K) rfl (pv 2)) (pg_name (i := 3) sc_is_laborious.nd rfl (.inl rfl)) (pss_one (ps_set (i := 1) sc_is_laborious.nd rfl (Or.inl rfl) (pe_op op_mul (pv 1) (pe_callB (call_lenA (K := K) rfl) (by rfl) T.len PySem.boot_len (pa_cons (pe_ix (ix_anyK (K := K) rfl) (pv 3) pe_int (fun _ _ => rfl)) pa_nil))))))))
      (pss_one (ps_ret (pe_and (pe_cmpR op_gt (pv 1) (pe_glob (v := .int (1000000)) rfl hLABORIOUS ⟨tLABORIOUS, rfl⟩) (nomark _)) (pe_one (pe_cmpR (op_notInD (u65 hr)) (pe_lst pa_nil) (pv 0) (by with_unfolding_all rfl)))))))), ?_⟩
    obtain ⟨cs, ecs⟩ : ∃ cs : List Nat, cs = Mss.map List.length := ⟨_, rfl⟩
    rw [← ecs] at l4
    have p20 : ∀ n, n ≤ 4 → 20 ^ n ≤ 160000 := fun n h => Nat.le_trans (Nat.pow_le_pow_right (by decide) h) (by decide : 20 ^ 4 ≤ 160000)
    refine normG (σ' := [some (.ref a), some (.int (1 : Nat)), none, none]) rfl ?_
    refine any_var rfl (xs := vs) (.inl ha) (fun J wk => ?_)
    refine for_it wk (fun i σ H' => H' = H ∧ ∃ (n : Nat) (o2 o3 : Option V), σ = [some (.ref a), some (.int (n : Nat)), o2, o3] ∧ n ≤ 20 ^ (cs.take i).sum) ⟨rfl, 1, none, none, rfl, by simp⟩ (fun _ _ _ _ ⟨e, _⟩ => by rw [e]) ?_ ?_
    · rintro i x σ H2 H3 hi ⟨rfl, n, o2, o3, rfl, hn⟩ ⟨rfl, ex⟩
      obtain ⟨Ms, hMs, ⟨b, ws, rfl, hb, hw⟩⟩ := hz.at ex
      have fM := fw Ms (List.mem_of_getElem? hMs)
      have st := sum_step (l := cs) (i := i) (n := Ms.length) (by rw [ecs, List.getElem?_map, hMs]; rfl)
      have st2 := sum_take cs (i + 1)
      refine normG (σ' := [some (.ref a), some (.int (n : Nat)), some (.ref b), o3]) rfl ?_
      refine any_var rfl (xs := ws) (.inl hb) (fun J2 wk2 => ?_)
      refine for_it wk2 (fun j σ H' => H' = H3 ∧ ∃ (n : Nat) (o3 : Option V), σ = [some (.ref a), some (.int (n : Nat)), some (.ref b), o3] ∧ n ≤ 20 ^ ((cs.take i).sum + j)) ⟨rfl, n, o3, rfl, hn⟩ (fun _ _ _ _ ⟨e, _⟩ => by rw [e]) ?_ ?_
      · rintro j x σ H4 H5 hj ⟨rfl, n, o3, rfl, hn⟩ ⟨rfl, ex2⟩
        obtain ⟨M, hM, mM⟩ := hw.at ex2
        have fM1 := fM M (List.mem_of_getElem? hM)
        obtain ⟨m, r, e, rvs, rfl, hm, hr, hR, he⟩ := mM
        have lr : rvs.length ≤ 20 := by
          rw [hR.len]
          exact fM1.few
        have lj := hw.1
        have n16 : n ≤ 160000 := Nat.le_trans hn (p20 _ (by omega))
        refine normG (σ' := [some (.ref a), some (.int (n : Nat)), some (.ref b), some (.ref m)]) rfl ?_
        refine ⟨_, rfl, _, rfl, m, _, _, _, rfl, rfl, .inr (SqT.of hm), at0, r, _, rfl, .inr (SqT.of hr), _, _, rfl, rfl, .inl ⟨by omega, by omega⟩, rfl, n * rvs.length, some (.ref m), ?_, ?_⟩
        · rw [Int.natCast_mul]
          rfl
        · rw [← Nat.add_assoc, Nat.pow_succ]
          exact Nat.mul_le_mul hn lr
      · rintro σ H4 ⟨rfl, n, o3, rfl, hn⟩
        refine ⟨rfl, n, some (.ref b), o3, rfl, ?_⟩
        rw [st, ← hw.1]
        exact hn
    · rintro σ H2 ⟨rfl, n, o2, o3, rfl, hn⟩
      have st2 := sum_take cs vs.length
      have n16 : n ≤ 160000 := Nat.le_trans hn (p20 _ (by omega))
      refine ⟨_, rfl, _, _, rfl, rfl, _, rfl, if_no (decide_eq_false (by omega)) q⟩
theorem sc_machine_of_cases : FnScope ["arity", "cases", "case"] ["arity", "cases"] (defScope s_machine_of_cases) := ⟨rfl, rfl, rfl, by decide +kernel, rfl, by decide +kernel, by decide +kernel⟩
theorem ok_mOfC {f : Addr} {fd : FuncData} {kb ke : Addr} (F : FnP K "machine_of_cases" s_machine_of_cases f fd) (T : Nb mg) (hBOTH : mg "BOTH" = some (.ref kb)) (hKB : ∀ H, KpAt K H kb fun a b => a && b) (hEITHER : mg "EITHER" = some (.ref ke)) (hKE : ∀ H, KpAt K H ke fun a b => a || b)
    (dEmptyM : Dn P w K mg base 1 "empty_machine" ["arity"] (spOneMach false)) (dFullM : Dn P w K mg base 1 "full_machine" ["arity"] (spOneMach true)) (dJAtL : Dn P w K mg base 5 "joined_at_last" ["machines", "keep"] (spJAtL K)) (dInAll : Dn P w K mg base 5 "in_all" ["machines"] spInAll) :
    FnOk P w K mg base CX0 6 f fd ["arity", "cases"] spMOfC := by
  refine F.ok sc_machine_of_cases (fun vs H Q E h => ?_) (fun cdv A outer s H vs Q E hr h => ?_)
  · obtain ⟨k, v, Mss, rfl, _⟩ := h
    rfl
  · obtain ⟨k, v, Mss, rfl, hv, k1, k4, ⟨fw, ft⟩, q⟩ := h
    refine ⟨_, PSs.nox (pss_cons (ps_if (pt_cmpR (op_inD (u65 hr)) (pe_lst pa_nil) (pv 1) (by with_unfolding_all rfl)) (pss_one (ps_ret (pe_dn dFullM hr (pa_cons (pv 0) pa_nil)))) pss_nil)
      (pss_cons (ps_if (pt_not (pt_truth (pv 1) (by intro _; rfl))) (pss_one (ps_ret (pe_dn dEmptyM hr (pa_cons (pv 0) pa_nil)))) pss_nil)
      (pss_cons (ps_if (pt_cmpR op_eq (pe_callB (call_lenA (K := K) rfl) (by rfl) T.len PySem.boot_len (pa_cons (pv 1) pa_nil)) pe_int (nomark _)) (pss_one (ps_ret (pe_dn dJAtL hr (pa_cons (pe_ix (ix_anyK (K := K) rfl) (pv 1) pe_int (fun _ _ => rfl)) (pa_cons (pe_glob (v := .ref kb) rfl hBOTH rfl) pa_nil))))) pss_nil)
      (pss_one (ps_ret (pe_dn dJAtL hr (pa_cons (pe_lc (own := [("case", 2)]) (g := gName 2) (tt := tYes) rfl sc_machine_of_cases.nd (pi_anyK (K := K) rfl (pv 1)) (blkOk_by (N := ["arity", "cases", "case"]) (sc := defScope s_machine_of_cases) (by decide +kernel)) (fun _ _ _ _ _ => (pg_name (i := 2) sc_machine_of_cases.nd rfl (.inl rfl))) (fun _ _ _ _ _ => pts_nil) (fun _ _ _ _ _ => (pe_dn dInAll hr (pa_cons (pv 2) pa_nil)))) (pa_cons (pe_glob (v := .ref ke) rfl hEITHER rfl) pa_nil)))))))), ?_⟩
    have w2 : 2 ≤ 2 ^ k := Nat.le_trans (by decide : 2 ≤ 2 ^ 1) (Nat.pow_le_pow_right (by decide) k1)
    have wm : 2 ^ k ≤ 1000 := Nat.le_trans (Nat.pow_le_pow_right (by decide) k4) (by decide : 2 ^ 4 ≤ 1000)
    have fewO : ∀ b, Few (ZA.oneA (2 ^ k) b) (2 ^ k) 400 := fun b => ⟨ZA.one_ok (by omega), Nat.zero_lt_one, by show 1 ≤ 400; decide, rfl⟩
    refine ⟨Nat.zero_le _, fun p hp => ⟨_, rfl, .list [], Mss.map (fun (Ms : List ZA.Aut) => PyData.list (Ms.map maD)), .lst (SqL.of upd_same) .nil, MssAt.dp (hv.ext (.of (same_new (Same.refl H) hp))), shaped_nil, shaped_mss Mss, _, rfl, ?_⟩⟩
    rw [any_nil]
    have s1 := same_new (o := .lst []) (Same.refl H) hp
    obtain ⟨a, vs, rfl, ha, hz⟩ := hv
    have ha1 := s1 _ _ ha
    obtain ⟨H1, eH1⟩ : ∃ H1, H1 = upd H p (.lst []) := ⟨_, rfl⟩
    rw [← eH1] at s1 ha1 ⊢
    refine ite2 (fun z => ?_) (fun z => ?_)
    · refine ⟨_, rfl, k, rfl, k1, k4, fun v' H' s' one => q v' H' _ (s1.trans s') one.s (fewO true) fun u => ?_⟩
      rw [ZA.one_lang (by omega)]
      obtain ⟨Ms, h1, h2⟩ := List.any_eq_true.mp z
      have : Ms = [] := by simpa using h2
      exact (List.any_eq_true.mpr ⟨Ms, h1, by rw [this]; rfl⟩).symm
    · have noE : ∀ Ms ∈ Mss, Ms ≠ [] := fun Ms hM e => z (List.any_eq_true.mpr ⟨Ms, hM, by rw [e]; rfl⟩)
      refine un_next ⟨_, rfl, _, .inl ⟨vs, SqL.of ha1, rfl⟩, ?_⟩
      by_cases y : Mss = []
      · subst y
        have : vs = [] := List.length_eq_zero_iff.mp hz.1
        subst this
        refine if_yes rfl ⟨_, rfl, k, rfl, k1, k4, fun v' H' s' one => q v' H' _ (s1.trans s') one.s (fewO false) fun u => ?_⟩
        rw [ZA.one_lang (by omega)]
        rfl
      · have vne : vs ≠ [] := fun e => y (List.length_eq_zero_iff.mp (by rw [← hz.1, e]; rfl))
        have ve : (!(!vs.isEmpty)) = false := by
          cases vs with
          | nil => exact absurd rfl vne
          | cons _ _ => rfl
        refine if_no ve (un_next ?_)
        have len2 : ∀ Ms ∈ Mss, 1 ≤ Ms.length ∧ Ms.length ≤ 2 := fun Ms hM => by
          have l1 : 1 ≤ Ms.length := List.length_pos_iff.mpr (noE Ms hM)
          refine ⟨l1, ?_⟩
          rcases ft with h | h | ⟨M, h, l⟩ | ⟨A1, B1, h⟩ | ⟨c1, c2, h, l, l', _⟩ | ⟨A1, B1, C1, h, _⟩
          · exact absurd rfl (noE [] h)
          · exact absurd h y
          all_goals
            rw [h] at hM
            simp at hM
            rcases hM with rfl | rfl | rfl <;> simp_all
        refine ⟨_, rfl, a, _, rfl, .inl (SqL.of ha1), rfl, _, rfl, ite2 (fun x => ?_) (fun x => ?_)⟩
        · have lv : vs.length = 1 := by
            have := of_decide_eq_true x
            injection this with this
            omega
          obtain ⟨v1, rfl⟩ := List.length_eq_one_iff.mp lv
          obtain ⟨Ms, rfl⟩ := List.length_eq_one_iff.mp (hz.1.symm.trans lv)
          have mM : MsAt H v1 Ms := hz.2 0 v1 Ms rfl rfl
          have fM := fw Ms (by simp)
          obtain ⟨l1, l2⟩ := len2 Ms (by simp)
          have jok : JOk (2 ^ k) Ms := by
            match Ms, l1, l2, fM with
            | [A1], _, _, fM => exact ⟨(fM A1 (by simp)).ok, (fM A1 (by simp)).pos, Nat.le_trans (fM A1 (by simp)).few (by decide), (fM A1 (by simp)).wd⟩
            | [A1, B1], _, _, fM =>
              have fA := fM A1 (by simp)
              have fB := fM B1 (by simp)
              obtain ⟨P1, hP1, lP1⟩ := pairs_all fA.ok fB.ok (fA.wd.trans fB.wd.symm) fA.pos fB.pos
              exact ⟨⟨fA.ok, fA.pos, Nat.le_trans fA.few (by decide), fA.wd⟩, ⟨fB.ok, fB.pos, Nat.le_trans fB.few (by decide), fB.wd⟩, P1, hP1, by rw [lP1]; exact Nat.le_trans (Nat.mul_le_mul fA.few fB.few) (by decide)⟩
          refine ⟨_, rfl, a, _, _, v1, rfl, rfl, .inl (SqL.of ha1), at0, v1, kb, Ms, 2 ^ k, (fun a b => a && b), rfl, mM.ext (.of s1), hKB _, jok, w2, wm, fun v' H' C s' ms fC lg => q v' H' C (s1.trans s') ms fC fun u => ?_⟩
          rw [lg u]
          match Ms, l1, l2 with
          | [A1], _, _ => simp [JSays, anyAll]
          | [A1, B1], _, _ => simp [JSays, anyAll]
        · have lv : vs.length ≠ 1 := fun h => x (decide_eq_true (by rw [h]; rfl))
          rw [hz.1] at lv
          refine un_next ?_
          refine any_var rfl (xs := vs) (.inl ha1) (fun J wk => ?_)
          intro D hD
          have nDa : D ≠ a := (ne_of_none ha1 hD).symm
          refine lc_it wk (fun j Hx => ∃ (ys : List V) (Ns : List ZA.Aut), Hx D = some (.lst ys) ∧ Same H1 Hx ∧ Zs (fun A v => MaT Hx v A) ys Ns ∧ Ns.length = j ∧ ∀ (n : Nat) N Ms, Ns[n]? = some N → Mss[n]? = some Ms → InAll (2 ^ k) Ms N)
            ⟨[], [], upd_same, same_new (Same.refl _) hD, .nil, rfl, fun n N Ms h => by simp at h⟩ (fun j Hx _ ⟨_, _, _, e, _⟩ => by rw [e _ _ ha1, ha1]) ?_ ?_
          · rintro j x Hx Hx' hj ⟨ys, Ns, eD, s2, zN, lN, iN⟩ ⟨rfl, ex2⟩
            obtain ⟨Ms, hMs, mM⟩ := hz.at ex2
            have hm := List.mem_of_getElem? hMs
            obtain ⟨l1, l2⟩ := len2 Ms hm
            refine ⟨rfl, yes_to ⟨_, rfl, x, Ms, 2 ^ k, rfl, mM.ext (.of (s1.trans s2)), l1, l2, fw Ms hm, w2, wm, fun v' Hy N sy mt im => ?_⟩⟩
            have eDy := sy _ _ eD
            refine ⟨ys, eDy, szL _ ?_, ys ++ [v'], Ns ++ [N], upd_same, same_upd (s2.trans sy) hD, ?_, by simp [lN], fun n B c' hB hc' => ?_⟩
            · rw [zN.1, lN]
              have h1 := hz.1
              rcases ft with h | h | ⟨M, h, l⟩ | ⟨A1, B1, h⟩ | ⟨c1, c2, h, l, l', _⟩ | ⟨A1, B1, C1, h, _⟩
              · exact absurd rfl (noE [] h)
              · exact absurd h y
              all_goals
                rw [h] at h1
                simp at h1
                omega
            · exact (zN.imp fun _ _ q => MaT.kl (MaT.same q sy) (.upd eDy)).snoc (MaT.kl mt (.upd eDy))
            · by_cases z : n < Ns.length
              · rw [List.getElem?_append_left z] at hB
                exact iN n B c' hB hc'
              · have hn : n = Ns.length := by
                  have := (List.getElem?_eq_some_iff.mp hB).1
                  simp at this
                  omega
                subst hn
                rw [List.getElem?_append_right (Nat.le_refl _), Nat.sub_self] at hB
                cases hB
                rw [lN, hMs] at hc'
                cases hc'
                exact im
          · rintro Hx ⟨ys, Ns, eD, s2, zN, lN, iN⟩
            rw [hz.1] at lN
            have key : JOk (2 ^ k) Ns ∧ ∀ u, JSays (fun a b => a || b) u Ns = anyAll Mss u := by
              rcases ft with h | h | ⟨M, h, l⟩ | ⟨A1, B1, h⟩ | ⟨c1, c2, h, l, l', e⟩ | ⟨A1, B1, C1, h, e⟩
              · exact absurd rfl (noE [] h)
              · exact absurd h y
              · rw [h] at lv
                exact absurd rfl lv
              · subst h
                match Ns, lN, iN with
                | [N1, N2], _, iN =>
                  have i1 := iN 0 N1 [A1] rfl rfl
                  have i2 := iN 1 N2 [B1] rfl rfl
                  exact ⟨jok2 i1 i2 (.inl ⟨rfl, rfl⟩), fun u => by simp [JSays, anyAll, i1.2.1 u, i2.2.1 u]⟩
              · subst h
                match Ns, lN, iN with
                | [N1, N2], _, iN =>
                  have i1 := iN 0 N1 c1 rfl rfl
                  have i2 := iN 1 N2 c2 rfl rfl
                  have q1 := len2 c1 (by simp)
                  have q2 := len2 c2 (by simp)
                  have eN : ∀ u, N1.lang 0 u = N2.lang 0 u := fun u => by rw [i1.2.1 u, i2.2.1 u, e u]
                  refine ⟨jok2 i1 i2 ?_, fun u => by simp [JSays, anyAll, i1.2.1 u, i2.2.1 u]⟩
                  by_cases b : c1.length = 1 ∧ c2.length = 1
                  · exact .inl b
                  · exact .inr ⟨by omega, eN⟩
              · subst h
                match Ns, lN, iN with
                | [N1, N2, N3], _, iN =>
                  have i1 := iN 0 N1 [A1] rfl rfl
                  have i2 := iN 1 N2 [B1] rfl rfl
                  have i3 := iN 2 N3 [C1] rfl rfl
                  refine ⟨⟨⟨i1.1.ok, i1.1.pos, i1.2.2.1 rfl, i1.1.wd⟩, ⟨i2.1.ok, i2.1.pos, i2.2.2.1 rfl, i2.1.wd⟩, ⟨i3.1.ok, i3.1.pos, i3.2.2.1 rfl, i3.1.wd⟩, ?_⟩, fun u => by simp [JSays, anyAll, i1.2.1 u, i2.2.1 u, i3.2.1 u, Bool.or_assoc]⟩
                  exact e.imp (fun e u => by rw [i3.2.1 u, i1.2.1 u]; simp [e u]) fun e => e.imp (fun e u => by rw [i3.2.1 u, i2.2.1 u]; simp [e u]) fun e u => by rw [i1.2.1 u, i2.2.1 u]; simp [e u]
            exact ⟨.ref D, ke, Ns, 2 ^ k, (fun a b => a || b), rfl, ⟨D, ys, rfl, eD, zN⟩, hKE _, key.1, w2, wm, fun v' H' C s' ms fC lg => q v' H' C (s1.trans (s2.trans s')) ms fC fun u => by rw [lg u, key.2 u]⟩
end
end K01
set_option maxHeartbeats 4000000
namespace K01
open PySem PySem.Spec PyProof.Rows L2 Z
def tyN : List String := ["NoneType", "bool", "int", "str", "list", "tuple", "dict"]
theorem kit_int {K : PySem.W.Frag} : ∀ T ∈ tyN, PySem.W.kitOne K (.type T) (.type "int") = some (T == "int" || T == "bool") := by
  intro T h
  simp only [tyN, List.mem_cons, List.not_mem_nil, or_false] at h
  rcases h with rfl | rfl | rfl | rfl | rfl | rfl | rfl <;> exact kit_ty (by decide +kernel)
theorem kit_bool {K : PySem.W.Frag} : ∀ T ∈ tyN, PySem.W.kitOne K (.type T) (.type "bool") = some (T == "bool") := by
  intro T h
  simp only [tyN, List.mem_cons, List.not_mem_nil, or_false] at h
  rcases h with rfl | rfl | rfl | rfl | rfl | rfl | rfl <;> exact kit_ty (by decide +kernel)
theorem kit_tup {K : PySem.W.Frag} : ∀ T ∈ tyN, PySem.W.kitOne K (.type T) (.type "tuple") = some (T == "tuple") := by
  intro T h
  simp only [tyN, List.mem_cons, List.not_mem_nil, or_false] at h
  rcases h with rfl | rfl | rfl | rfl | rfl | rfl | rfl <;> exact kit_ty (by decide +kernel)
theorem kit_lst {K : PySem.W.Frag} : ∀ T ∈ tyN, PySem.W.kitOne K (.type T) (.type "list") = some (T == "list") := by
  intro T h
  simp only [tyN, List.mem_cons, List.not_mem_nil, or_false] at h
  rcases h with rfl | rfl | rfl | rfl | rfl | rfl | rfl <;> exact kit_ty (by decide +kernel)
theorem kit_tl {K : PySem.W.Frag} (T : String) (h : T ∈ tyN) : PySem.W.kitAny K (.type T) [.type "tuple", .type "list"] = some (T == "tuple" || T == "list") :=
  kitAny_cons (kit_tup T h) (fun z => by
    rw [z, Bool.false_or]
    exact kitAny_cons (kit_lst T h) (fun z => by rw [z]; rfl) (fun z => z)) (fun z => by rw [z]; rfl)
def isI : V → Bool
  | .int _ => true
  | _ => false
def natV : V → Bool
  | .int i => decide (0 ≤ i)
  | _ => false
/-- a value of one of these kinds -/
def Kin (K : PySem.W.Frag) (H : Hp) (v : V) : Prop := ∃ T, TyOf K H v (.type T) ∧ T ∈ tyN
theorem Kin.isI {K : PySem.W.Frag} {H : Hp} {v : V} {T : String} (h : TyOf K H v (.type T)) (m : T ∈ tyN) : ((T == "int" || T == "bool") && !(T == "bool")) = isI v := by
  cases h <;> first | rfl | (simp [tyN] at m)
theorem tyOf_same {K : PySem.W.Frag} {H H' : Hp} {v : V} {T : String} (h : TyOf K H v (.type T)) (s : Same H H') : TyOf K H' v (.type T) := by
  cases h with
  | non => exact .non
  | bl x => exact .bl x
  | int i => exact .int i
  | str x => exact .str x
  | flt x => exact .flt x
  | lst e => exact .lst (s _ _ e)
  | frz e => exact .frz (s _ _ e)
  | tup e => exact .tup (s _ _ e)
  | dK e => exact .dK (s _ _ e)
  | dT e => exact .dT (s _ _ e)
theorem Kin.same {K : PySem.W.Frag} {H H' : Hp} {v : V} (h : Kin K H v) (s : Same H H') : Kin K H' v := let ⟨T, h, m⟩ := h; ⟨T, tyOf_same h s, m⟩
def spIsInt (K : PySem.W.Frag) : Sp := fun vs H Q _ => ∃ v, vs = [v] ∧ Kin K H v ∧ Q (.bl (isI v)) H
def spIsNat (K : PySem.W.Frag) : Sp := fun vs H Q _ => ∃ v, vs = [v] ∧ Kin K H v ∧ Q (.bl (natV v)) H
/-- what a row says: none if it is no list and no tuple -/
def RowIs (K : PySem.W.Frag) (H : Hp) (v : V) (xs : Option (List V)) : Prop := match xs with
  | none => ∃ T, TyOf K H v (.type T) ∧ T ∈ ["NoneType", "bool", "int", "str", "dict"]
  | some xs => ∃ a, v = .ref a ∧ (H a = some (.lst xs) ∨ H a = some (.tup xs)) ∧ xs.length ≤ 10 ∧ ∀ x ∈ xs, Kin K H x
def rowSays (k : Nat) : Option (List V) → Bool
  | none => false
  | some xs => decide (xs.length = k) && xs.all natV
def spIsRow (K : PySem.W.Frag) : Sp := fun vs H Q _ => ∃ (v : V) (k : Nat) (xs : Option (List V)), vs = [v, .int (k : Nat)] ∧ RowIs K H v xs ∧ ∀ H', Same H H' → Q (.bl (rowSays k xs)) H'
section
variable {P : Program} {w : World} {K : PySem.W.Frag} {mg : Str → Option Value} {base : Heap}
theorem sc_is_integer : FnScope ["value"] ["value"] (defScope s_is_integer) := ⟨rfl, rfl, rfl, by decide +kernel, rfl, by decide +kernel, by decide +kernel⟩
theorem ok_isInt {f : Addr} {fd : FuncData} (F : FnP K "is_integer" s_is_integer f fd) (T : Nb mg) : FnOk P w K mg base CX0 1 f fd ["value"] (spIsInt K) := by
  refine F.ok sc_is_integer (fun vs H Q E h => ?_) (fun cdv A outer s H vs Q E hr h => ?_)
  · obtain ⟨v, rfl, _⟩ := h
    rfl
  · obtain ⟨v, rfl, ⟨Ty, h, m⟩, q⟩ := h
    refine ⟨_, PSs.nox (pss_one (ps_ret (pe_and (pe_callB call_isi (by rfl) T.isi (by decide +kernel) (pa_cons (pv 0) (pa_cons (pe_bltn (v := .ty "int") (by rfl) T.int (by decide +kernel) rfl) pa_nil))) (pe_one (pe_not (pe_callB call_isi (by rfl) T.isi (by decide +kernel) (pa_cons (pv 0) (pa_cons (pe_bltn (v := .ty "bool") (by rfl) T.bool (by decide +kernel) rfl) pa_nil)))))))), ?_⟩
    rw [← Kin.isI h m] at q
    refine ⟨_, rfl, _, _, _, _, _, rfl, .ty _, .base h, kit_int Ty m, _, rfl, ite2 (fun z => ?_) (fun z => ?_)⟩
    · rw [z] at q
      exact ⟨_, rfl, _, _, _, _, _, rfl, .ty _, .base h, kit_bool Ty m, _, rfl, q⟩
    · have z : (Ty == "int" || Ty == "bool") = false := by simpa using z
      rw [z] at q
      exact q
theorem sc_is_natural : FnScope ["value"] ["value"] (defScope s_is_natural) := ⟨rfl, rfl, rfl, by decide +kernel, rfl, by decide +kernel, by decide +kernel⟩
theorem ok_isNat {f : Addr} {fd : FuncData} (F : FnP K "is_natural" s_is_natural f fd) (T : Nb mg) (dIsInt : Dn P w K mg base 1 "is_integer" ["value"] (spIsInt K)) : FnOk P w K mg base CX0 2 f fd ["value"] (spIsNat K) := by
  refine F.ok sc_is_natural (fun vs H Q E h => ?_) (fun cdv A outer s H vs Q E hr h => ?_)
  · obtain ⟨v, rfl, _⟩ := h
    rfl
  · obtain ⟨v, rfl, kn, q⟩ := h
    refine ⟨_, PSs.nox (pss_one (ps_ret (pe_and (pe_dn dIsInt hr (pa_cons (pv 0) pa_nil)) (pe_one (pe_cmpR op_ge (pv 0) pe_int (nomark _)))))), ?_⟩
    refine ⟨_, rfl, v, rfl, kn, _, rfl, ?_⟩
    cases v with
    | int i => exact iteT ⟨_, rfl, _, _, rfl, rfl, q⟩
    | _ => exact iteF q
theorem sc_is_row : FnScope ["value", "arity", "number"] ["value", "arity"] (defScope s_is_row) := ⟨rfl, rfl, rfl, by decide +kernel, rfl, by decide +kernel, by decide +kernel⟩
theorem ok_isRow {f : Addr} {fd : FuncData} (F : FnP K "is_row" s_is_row f fd) (T : Nb mg) (dIsNat : Dn P w K mg base 2 "is_natural" ["value"] (spIsNat K)) : FnOk P w K mg base CX0 3 f fd ["value", "arity"] (spIsRow K) := by
  refine F.ok sc_is_row (fun vs H Q E h => ?_) (fun cdv A outer s H vs Q E hr h => ?_)
  · obtain ⟨v, k, xs, rfl, _⟩ := h
    rfl
  · obtain ⟨v, k, xs, rfl, hx, q⟩ := h
    refine ⟨_, PSs.nox (pss_cons (ps_if (PW.pt (pw_or (pt_not (pt_val (pe_callB call_isiT (by rfl) T.isi (by decide +kernel) (pa_cons (pv 0) (pa_cons (pe_tup (pa_cons (pe_bltn (v := .ty "tuple") (by rfl) T.tuple (by decide +kernel) rfl) (pa_cons (pe_bltn (v := .ty "list") (by rfl) T.list (by decide +kernel) rfl) pa_nil))) pa_nil))))) (pw_or1 (pt_cmpR op_ne (pe_callB (call_lenA (K := K) rfl) (by rfl) T.len PySem.boot_len (pa_cons (pv 0) pa_nil)) (pv 1) (nomark _))))) (pss_one (ps_ret pe_bl)) pss_nil)
      (pss_one (ps_ret (pe_callB (cr_all rfl) (by rfl) T.all (by decide +kernel) (pa_cons (pe_lc (own := [("number", 2)]) (g := gName 2) (tt := tYes) rfl sc_is_row.nd (pi_anyK (K := K) rfl (pv 0)) (blkOk_by (N := ["value", "arity", "number"]) (sc := defScope s_is_row) (by decide +kernel)) (fun _ _ _ _ _ => (pg_name (i := 2) sc_is_row.nd rfl (.inl rfl))) (fun _ _ _ _ _ => pts_nil) (fun _ _ _ _ _ => (pe_dn dIsNat hr (pa_cons (pv 2) pa_nil)))) pa_nil))))), ?_⟩
    match xs, hx, q with
    | none, ⟨Ty, h, m⟩, q =>
      have m2 : Ty ∈ tyN := by
        simp only [tyN, List.mem_cons, List.not_mem_nil, or_false] at m ⊢
        rcases m with rfl | rfl | rfl | rfl | rfl <;> simp
      have e : (Ty == "tuple" || Ty == "list") = false := by
        simp only [List.mem_cons, List.not_mem_nil, or_false] at m
        rcases m with rfl | rfl | rfl | rfl | rfl <;> rfl
      refine ⟨_, rfl, sz2, fun p hp => ?_⟩
      have s1 := same_new (o := .tup [.ty "tuple", .ty "list"]) (Same.refl H) hp
      have hh := tyOf_same h s1
      refine ⟨v, p, _, _, _, _, rfl, upd_same, .cons (.ty _) (.cons (.ty _) .nil), .base hh, kit_tl Ty m2, _, rfl, ?_⟩
      rw [e]
      exact q _ s1
    | some xs, ⟨a, ev, ha, lx, kx⟩, q =>
      subst ev
      refine ⟨_, rfl, sz2, fun p hp => ?_⟩
      have s1 := same_new (o := .tup [.ty "tuple", .ty "list"]) (Same.refl H) hp
      have sq : Sq (upd H p (.tup [.ty "tuple", .ty "list"])) a xs := ha.elim (fun h => .inl (s1 _ _ h)) fun h => .inr (.inl (s1 _ _ h))
      obtain ⟨H1, eH1⟩ : ∃ H1, H1 = upd H p (.tup [.ty "tuple", .ty "list"]) := ⟨_, rfl⟩
      have hp1 : H1 p = some (.tup [.ty "tuple", .ty "list"]) := by rw [eH1]; exact upd_same
      rw [← eH1] at s1 sq ⊢
      obtain ⟨Ty, hT, eT⟩ : ∃ Ty, TyOf K H1 (.ref a) (.type Ty) ∧ Ty ∈ tyN ∧ (Ty == "tuple" || Ty == "list") = true := by
        rcases ha with h | h
        · exact ⟨"list", .lst (s1 _ _ h), by simp [tyN], rfl⟩
        · exact ⟨"tuple", .tup (s1 _ _ h), by simp [tyN], rfl⟩
      refine ⟨.ref a, p, _, _, _, _, rfl, hp1, .cons (.ty _) (.cons (.ty _) .nil), .base hT, kit_tl Ty eT.1, _, rfl, ?_⟩
      rw [eT.2]
      refine iteF ⟨_, rfl, a, _, rfl, sq.any, _, rfl, rfl, _, rfl, ite2 (fun z => ?_) (fun z => ?_)⟩
      · have z : xs.length ≠ k := fun h => by
          have : (!decide (V.int ((xs.length : Nat) : Int) = V.int ((k : Nat) : Int))) = true := z
          rw [h] at this
          simp at this
        have : rowSays k (some xs) = false := by
          show (decide (xs.length = k) && _) = false
          rw [decide_eq_false z]
          rfl
        rw [this] at q
        exact q _ s1
      · have z : xs.length = k := by
          have : ¬ (!decide (V.int ((xs.length : Nat) : Int) = V.int ((k : Nat) : Int))) = true := z
          simp at this
          omega
        refine un_next ?_
        refine any_var rfl (xs := xs) sq (fun J wk => ?_)
        intro D hD
        refine lc_all wk hD (by omega) (fun i y _ => ∀ x, xs[i]? = some x → y = V.bl (natV x)) (fun _ _ _ _ _ h => h) (fun H8 s8 => sq.eqs s8 (Same.refl _)) ?_ ?_
        · rintro i x H5 H6 R N zs hi s5 eD ⟨rfl, ex⟩ k5
          refine ⟨rfl, yes_to ⟨_, rfl, x, rfl, (kx x (List.mem_of_getElem? ex)).same (s1.trans s5), k5 _ _ (Same.refl _) ?_⟩⟩
          intro x' hx'
          rw [ex] at hx'
          cases hx'
          rfl
        · intro ys H5 ly py s5 eD
          have ey : ys = (xs.map natV).map V.bl := by
            rw [List.map_map]
            exact list_maps ly py
          rw [ey] at eD
          refine ⟨D, xs.map natV, rfl, SqL.of eD, ?_⟩
          have : rowSays k (some xs) = (xs.map natV).all id := by
            show (decide (xs.length = k) && xs.all natV) = _
            rw [decide_eq_true z, List.all_map]
            rfl
          rw [← this]
          exact q _ (s1.trans s5)
end
end K01
set_option maxHeartbeats 4000000
namespace K01
open PySem PySem.Spec PyProof.Rows L2 Z
theorem or_small : ∀ r ∈ List.range 16, ∀ p ∈ List.range 4, ∀ b ∈ List.range 2, r < 2 ^ p → Builtin.bitOr (r : Int) ((b : Int) * 2 ^ p) = ((r + b * 2 ^ p : Nat) : Int) := by decide +kernel
theorem bits_lt (n : Nat) : n < 2 ^ Builtin.Int.intBits (n : Int) := by
  unfold Builtin.Int.intBits
  split
  · rename_i h
    have : n = 0 := by simpa using h
    subst this
    decide
  · rw [Int.natAbs_natCast]
    exact Nat.lt_log2_self
/-- the letter of the first numbers -/
theorem letter_snoc : ∀ (xs : List Nat) (x j : Nat), ZA.letterAt (xs ++ [x]) j = ZA.letterAt xs j + x / 2 ^ j % 2 * 2 ^ xs.length
  | [], x, j => by simp [ZA.letterAt]
  | y :: xs, x, j => by
    have ih := letter_snoc xs x j
    show y / 2 ^ j % 2 + 2 * ZA.letterAt (xs ++ [x]) j = y / 2 ^ j % 2 + 2 * ZA.letterAt xs j + x / 2 ^ j % 2 * 2 ^ (xs.length + 1)
    rw [ih, Nat.mul_add, Nat.pow_succ]
    have : 2 * (x / 2 ^ j % 2 * 2 ^ xs.length) = x / 2 ^ j % 2 * (2 ^ xs.length * 2) := by
      rw [Nat.mul_comm 2, Nat.mul_assoc]
    omega
theorem word_snoc (xs : List Nat) (i : Nat) : ZA.word xs (i + 1) = ZA.word xs i ++ [ZA.letterAt xs i] := by
  unfold ZA.word
  rw [List.range_succ, List.map_append]
  rfl
def spBehind (K : PySem.W.Frag) : Sp := fun vs H Q _ => ∃ (r na : Addr) (A : ZA.Aut) (ns : List Nat), vs = [.ref r, .ref na] ∧ RowsAt H r A.rows ∧ (H na = some (.lst (ns.map nV)) ∨ H na = some (.tup (ns.map nV))) ∧ A.Ok ∧ 0 < A.n ∧ A.w = 2 ^ ns.length ∧ 1 ≤ ns.length ∧ ns.length ≤ 4 ∧ (∀ n ∈ ns, n < 2 ^ 200) ∧
  ∀ (st L : Nat) H', Same H H' → (∀ n ∈ ns, n < 2 ^ L) → A.endAt st = A.lang 0 (ZA.word ns L) → st < A.n → Q (.int (st : Nat)) H'
section
variable {P : Program} {w : World} {K : PySem.W.Frag} {mg : Str → Option Value} {base : Heap}
theorem sc_state_behind : FnScope ["rows", "numbers", "state", "at", "number", "letter", "place"] ["rows", "numbers"] (defScope s_state_behind) := ⟨rfl, rfl, rfl, by decide +kernel, rfl, by decide +kernel, by decide +kernel⟩
theorem ok_behind {f : Addr} {fd : FuncData} (F : FnP K "state_behind" s_state_behind f fd) (T : Nb mg) : FnOk P w K mg base CX0 1 f fd ["rows", "numbers"] (spBehind K) := by
  refine F.ok sc_state_behind (fun vs H Q E h => ?_) (fun cdv A outer s H vs Q E hr h => ?_)
  · obtain ⟨r, na, M, ns, rfl, _⟩ := h
    rfl
  · obtain ⟨r, na, M, ns, rfl, hR, hn, ok, n0, hw, l1, l4, bd, q⟩ := h
    refine ⟨_, PSs.nox (pss_cons (ps_set (i := 2) sc_state_behind.nd rfl (Or.inl rfl) pe_int)
      (pss_cons (ps_for PassesOwn.never rfl (pi_range1 (by rfl) T.range (pa_cons (pe_callB (cr_max rfl) (by rfl) T.max (by decide +kernel) (pa_cons (pe_lc (own := [("number", 4)]) (g := gName 4) (tt := tYes) rfl sc_state_behind.nd (pi_anyK (K := K) rfl (pv 1)) (blkOk_by (N := ["rows", "numbers", "state", "at", "number", "letter", "place"]) (sc := defScope s_state_behind) (by decide +kernel)) (fun _ _ _ _ _ => (pg_name (i := 4) sc_state_behind.nd rfl (.inl rfl))) (fun _ _ _ _ _ => pts_nil) (fun _ _ _ _ _ => (pe_bits (pv 4)))) pa_nil)) pa_nil)) (pg_name (i := 3) sc_state_behind.nd rfl (.inl rfl)) (pss_cons (ps_set (i := 5) sc_state_behind.nd rfl (Or.inl rfl) pe_int)
      (pss_cons (ps_for PassesOwn.never rfl (pi_enumA (by rfl) T.enumerate (pa_cons (pv 1) pa_nil)) (pg_tup (by rfl) (pgs_cons (pg_name (i := 6) sc_state_behind.nd rfl (.inl rfl)) (pgs_cons (pg_name (i := 4) sc_state_behind.nd rfl (.inl rfl)) pgs_nil))) (pss_one (ps_set (i := 5) sc_state_behind.nd rfl (Or.inl rfl) (pe_op op_or (pv 5) (pe_op op_shlN (pe_op op_odd (pe_op op_shrN (pv 4) (pv 3)) pe_int) (pv 6))))))
      (pss_one (ps_set (i := 2) sc_state_behind.nd rfl (Or.inl rfl) (pe_ix (ix_anyK (K := K) rfl) (pe_ix (ix_anyK (K := K) rfl) (pv 0) (pv 2) (fun _ _ => rfl)) (pv 5) (fun _ _ => rfl)))))))
      (pss_one (ps_ret (pv 2))))), ?_⟩
    have sq : Sq H na (ns.map nV) := hn.elim .inl fun h => .inr (.inl h)
    refine normG (σ' := [some (.ref r), some (.ref na), some (.int (0 : Nat)), none, none, none, none]) rfl ?_
    refine any_var rfl (xs := ns.map nV) sq (fun J wk => ?_)
    intro D hD
    refine lc_all wk hD (by rw [List.length_map]; omega) (fun i y _ => ∀ n, ns[i]? = some n → y = V.int (Builtin.Int.intBits ((n : Nat) : Int) : Nat)) (fun _ _ _ _ _ h => h) (fun H8 s8 => sq.eqs s8 (Same.refl _)) ?_ ?_
    · rintro i x H5 H6 R N zs hi s5 eD ⟨rfl, ex⟩ k5
      obtain ⟨n, hn2, rfl⟩ := map_at ex
      refine ⟨rfl, yes_to ⟨_, rfl, _, rfl, k5 _ _ (Same.refl _) ?_⟩⟩
      intro n' hn'
      rw [hn2] at hn'
      cases hn'
      rfl
    · intro ys H5 ly py s5 eD
      rw [List.length_map] at ly
      have ey : ys = (ns.map fun n => ((Builtin.Int.intBits ((n : Nat) : Int) : Nat) : Int)).map V.int := by
        rw [List.map_map]
        exact list_maps ly py
      rw [ey] at eD
      refine ⟨D, _, rfl, SqL.of eD, by rw [List.length_map]; omega, fun m hm1 hm2 => ?_⟩
      obtain ⟨n1, hn1, em⟩ := List.mem_map.mp hm1
      obtain ⟨L, eL⟩ : ∃ L : Nat, L = Builtin.Int.intBits ((n1 : Nat) : Int) := ⟨_, rfl⟩
      rw [← eL] at em
      subst em
      have L200 : L ≤ 200 := by
        rw [eL]
        exact PyProof.Rows.intBits_le (by rw [Int.natAbs_natCast]; exact bd n1 hn1)
      have big : ∀ n ∈ ns, n < 2 ^ L := fun n h => by
        have := hm2 _ (List.mem_map.mpr ⟨n, h, rfl⟩)
        exact Nat.lt_of_lt_of_le (bits_lt n) (Nat.pow_le_pow_right (by decide) (by omega))
      refine ⟨(L : Nat), rfl, by omega, by omega, ?_⟩
      rw [Int.toNat_natCast]
      refine for_it (walk_range (lo := 0) (n := L)) (fun i σ H' => ∃ (st : Nat) (o3 o4 o5 o6 : Option V), σ = [some (.ref r), some (.ref na), some (.int (st : Nat)), o3, o4, o5, o6] ∧ Same H H' ∧ st < M.n ∧ ∀ u, M.lang st u = M.lang 0 (ZA.word ns i ++ u)) ⟨0, none, none, none, none, rfl, s5, n0, fun u => rfl⟩ (fun _ _ _ _ _ => trivial) ?_ ?_
      · rintro i x σ H2 H3 hi ⟨st, o3, o4, o5, o6, rfl, s2, hst, lg⟩ ⟨rfl, rfl⟩
        refine normG (σ' := [some (.ref r), some (.ref na), some (.int (st : Nat)), some (.int (i : Nat)), o4, o5, o6]) (by simp) ?_
        refine normG (σ' := [some (.ref r), some (.ref na), some (.int (st : Nat)), some (.int (i : Nat)), o4, some (.int (0 : Nat)), o6]) rfl ?_
        refine enumA_of (K := K) (ta := tCons (tVar 1) tNil) (σ := [some (.ref r), some (.ref na), some (.int (st : Nat)), some (.int (i : Nat)), o4, some (.int (0 : Nat)), o6]) (H := H3) (H1 := H3) (a := na) (xs := ns.map nV) (fun Q q => ⟨_, rfl, q⟩) (hn.elim (fun h => .inl (s2 _ _ h)) fun h => .inr (s2 _ _ h)) (fun J2 wk2 => ?_)
        refine for_it wk2 (fun j σ H' => ∃ (o4 o6 : Option V), σ = [some (.ref r), some (.ref na), some (.int (st : Nat)), some (.int (i : Nat)), o4, some (.int (ZA.letterAt (ns.take j) i : Nat)), o6] ∧ Same H3 H') ⟨o4, o6, rfl, Same.refl _⟩ (fun j σ H' _ ⟨_, _, _, s⟩ => (sq.eqs (s2.trans s) s2)) ?_ ?_
        · rintro j x σ H4 H6 hj ⟨o4, o6, rfl, s4⟩ ⟨U, x, y, rfl, hU, rfl, ex, ey⟩
          cases ex
          have ey : (ns.map nV)[j]? = some y := ey
          obtain ⟨n, hn2, rfl⟩ := map_at ey
          rw [List.length_map] at hj
          have sU := s4.trans (same_new (o := .tup [V.int (j : Nat), nV n]) (Same.refl H4) hU)
          have lt := ZA.letter_lt (ns.take j) i
          rw [List.length_take, Nat.min_eq_left (by omega)] at lt
          have ls := letter_snoc (ns.take j) n i
          rw [List.length_take, Nat.min_eq_left (by omega)] at ls
          have tk : ns.take (j + 1) = ns.take j ++ [n] := by
            rw [List.take_add_one, hn2]
            rfl
          have b2 : n / 2 ^ i % 2 < 2 := Nat.mod_lt _ (by decide)
          have p8 : 2 ^ j ≤ 8 := Nat.le_trans (Nat.pow_le_pow_right (by decide) (by omega : j ≤ 3)) (by decide)
          have os := or_small (ZA.letterAt (ns.take j) i) (List.mem_range.mpr (by omega)) j (List.mem_range.mpr (by omega)) (n / 2 ^ i % 2) (List.mem_range.mpr b2) lt
          refine ⟨U, _, rfl, SqT.of upd_same, rfl, _, _, rfl, _, _, rfl, rfl, ?_⟩
          refine norm (N := fun σ _ => _) (σ' := [some (.ref r), some (.ref na), some (.int (st : Nat)), some (.int (i : Nat)), some (.int (n : Nat)), some (.int (ZA.letterAt (ns.take j) i : Nat)), some (.int (j : Nat))]) rfl ?_
          refine ⟨_, rfl, _, rfl, _, rfl, (n : Int), i, rfl, rfl, n / 2 ^ i, ?_, rfl, _, rfl, _, j, rfl, rfl, shl_ok (n := 1) (by rw [Int.natAbs_natCast]; exact b2) (by omega), _, _, rfl, rfl, some (V.int (n : Nat)), some (V.int (j : Nat)), ?_, sU⟩
          · rw [Int.natCast_ediv, Int.natCast_pow]
            rfl
          · rw [tk, ls, ← os]
            rfl
        · rintro σ H4 ⟨o4, o6, rfl, s4⟩
          rw [List.length_map, List.take_length]
          have s24 := s2.trans s4
          obtain ⟨rvs, hRs, hW⟩ := hR.same s24
          obtain ⟨row, hrow⟩ : ∃ row, M.rows[st]? = some row := ⟨_, List.getElem?_eq_getElem hst⟩
          obtain ⟨b, hb, hbs⟩ := hW.get hrow
          have lt := ZA.letter_lt ns i
          have lr := ok.wide st row hrow
          obtain ⟨t, ht⟩ : ∃ t, row[ZA.letterAt ns i]? = some t := ⟨_, List.getElem?_eq_getElem (by omega)⟩
          have et := ZA.to_at (A := M) hrow ht
          have tn : t < M.n := by
            rw [← et]
            exact ZA.to_lt ok hst (by omega)
          refine ⟨_, rfl, _, rfl, r, _, _, _, rfl, rfl, hRs.any, atN hb, _, rfl, b, _, _, _, rfl, rfl, hbs.any, atN (by rw [List.getElem?_map, ht]; rfl), ?_⟩
          refine ⟨t, some (.int (i : Nat)), o4, some (.int (ZA.letterAt ns i : Nat)), o6, rfl, s24, tn, fun u => ?_⟩
          rw [word_snoc, List.append_assoc, List.singleton_append, ← lg, ZA.lang_cons ok (by omega), et]
      · rintro σ H2 ⟨st, o3, o4, o5, o6, rfl, s2, hst, lg⟩
        refine ⟨_, rfl, q st L H2 s2 big ?_ hst⟩
        have := lg []
        rw [List.append_nil] at this
        rw [← this]
        rfl
end
end K01
set_option maxHeartbeats 4000000
namespace Z
open PySem PySem.Spec PyProof.Rows L2
section
open PySem.W
theorem own_contains {M : Model} {A : Around} {E : Value → Shared → Prop} {s : Shared} {K : Frag} {x C f : Addr} {ox : Obj} {od : Option Obj} {v : Value} {Q : Bool → Shared → Prop} (X : K.In s.heap) (I : InstAt s.heap x ox C od)
    (hs : findIn K (.ref C) "__contains__" = some (some (.ref f))) (hf : isFn K (.ref f) = true) (h : wpAny M A (call (.ref f) [.ref x, v]) (fun r s' => wpAny M A (truthy r) Q E s') E s) : wpAny M A (contains (.ref x) v) Q E s := by
  unfold contains
  refine wpAny_holding ?_
  have hn : stdlibNamesSay? (.ref x) v = none := by
    unfold stdlibNamesSay?
    rfl
  rw [hn]
  refine wpAny_bind (wpAny_bind (I.type.here ((looks_findIn X hs).here ?_)))
  show wpAny M A (if (some (Value.ref f) == some Value.none) = true then _ else _) Q E s
  rw [if_neg (by simp)]
  refine wpAny_bind ?_
  unfold callSpecialUnlessNone?
  refine wpAny_bind (wpAny_bind (I.type.here ((looks_findIn X hs).here ?_)))
  refine wpAny_holding (wpAny_bind ((bind_fn X _ (beq_iff_eq.mp hf)).here ?_))
  show wpAny M A (if (Value.ref f == Value.none) = true then _ else _) _ E s
  rw [if_neg (by simp)]
  exact wpAny_bind (wpAny_mono h (fun _ _ z => wpAny_pure z) fun _ _ z => z)
end
section
variable {X : Cx}
/-- x in y, y of the class C -/
def rInOwn (C : Addr) (sp : Sp) : R2 := fun x y H Q => ∃ (a dx : Addr) (fs : List (Str × V)), y = .ref a ∧ H a = some (.ins C dx fs) ∧ sp [y, x] H (fun z H' => ∃ c, z = .bl c ∧ Q (.bl c) H') E0
theorem op_inOwn {C : Addr} {k j : Nat} {sp : Sp} (O : Om X.prog X.w X.K X.mg X.base C j "__contains__" sp) (hr : Room k X.A) (hjk : j ≤ k := by decide) : OpR X (compareOp .In) (rInOwn C sp) := by
  intro pins s σ H x y v u Q I rx ry h
  obtain ⟨a, dx, fs, rfl, ha, q⟩ := h
  obtain ⟨f, fd, ps, F, hs, hf, hbd⟩ := O
  have rr : Vals [V.ref a, x] [u, v] := .cons ry (.cons rx .nil)
  cases (show u = Value.ref a from ry)
  obtain ⟨od, J⟩ := ins_at I ha
  show wpAny _ _ (contains (.ref a) v >>= fun b => pure (Value.bool b)) _ _ s
  refine wpAny_bind (own_contains I.kIn J hs hf (wpAny_mono (run_fn (vs := [.ref a, x]) F (hr.mono hjk) hbd .nil pass0 I rr (by rw [List.append_nil]; exact q)) (fun r s' q => ?_) fun _ _ z => z))
  obtain ⟨z, H', I', rz, c, rfl, q⟩ := q
  cases (show r = Value.bool c from rz)
  exact wpAny_truthy_bool (wpAny_pure ⟨.bl c, H', I', rfl, q⟩)
end
end Z
set_option maxHeartbeats 4000000
namespace K01
open PySem PySem.Spec PyProof.Rows L2 Z
abbrev FnM (K : PySem.W.Frag) (C m q : Str) (st : Stmt) (fd : FuncData) : Prop := FunD K m q (defArgs st) (defBody st) (defScope st) [] [] (He.ma K (He.ga K C) m) fd
abbrev CD (K : PySem.W.Frag) : Addr := He.ga K "DigitSet"
structure DsTx (K : PySem.W.Frag) (mg : Str → Option Value) : Prop where
  gD : mg "DigitSet" = some (.ref (CD K))
  clD : Cls K (CD K)
  mkD : Mk K (CD K) (He.ma K (CD K) "__init__")
  ixD : Inx K (CD K)
  nA : NoAttr K (CD K) "arity"
  nR : NoAttr K (CD K) "rows"
  nE : NoAttr K (CD K) "ends"
  nS : NoAttr K (CD K) "states"
  kDD : PySem.W.kitOne K (.ref (CD K)) (.ref (CD K)) = some true
  kTD : ∀ T ∈ tyN, PySem.W.kitOne K (.type T) (.ref (CD K)) = some false
def dsf (k : Nat) (r e : Addr) (n : Nat) : List (Str × V) := putF "states" (.int (n : Nat)) (putF "ends" (.ref e) (putF "rows" (.ref r) (putF "arity" (.int (k : Nat)) [])))
theorem ar_ : ¬ (("arity" : Str) = "rows") := by decide +kernel
theorem ae_ : ¬ (("arity" : Str) = "ends") := by decide +kernel
theorem as_ : ¬ (("arity" : Str) = "states") := by decide +kernel
theorem re_ : ¬ (("rows" : Str) = "ends") := by decide +kernel
theorem rs_ : ¬ (("rows" : Str) = "states") := by decide +kernel
theorem es_ : ¬ (("ends" : Str) = "states") := by decide +kernel
section
variable {k n : Nat} {r e : Addr}
theorem dsf_a : (dsf k r e n).lookup ("arity" : Str) = some (.int (k : Nat)) := by
  unfold dsf
  rw [lookup_putF, if_neg as_, lookup_putF, if_neg ae_, lookup_putF, if_neg ar_, lookup_putF, if_pos rfl]
theorem dsf_r : (dsf k r e n).lookup ("rows" : Str) = some (.ref r) := by
  unfold dsf
  rw [lookup_putF, if_neg rs_, lookup_putF, if_neg re_, lookup_putF, if_pos rfl]
theorem dsf_e : (dsf k r e n).lookup ("ends" : Str) = some (.ref e) := by
  unfold dsf
  rw [lookup_putF, if_neg es_, lookup_putF, if_pos rfl]
theorem dsf_s : (dsf k r e n).lookup ("states" : Str) = some (.int (n : Nat)) := by
  unfold dsf
  rw [lookup_putF, if_pos rfl]
theorem len3 (f g h : Str) (v u w : V) : (putF f v (putF g u (putF h w []))).length < 1000 := Nat.lt_of_le_of_lt (Nat.le_trans (length_putF f v _) (Nat.add_le_add_right (Nat.le_trans (length_putF g u _) (Nat.add_le_add_right (length_putF h w []) 1)) 1)) (by decide)
end
theorem rwz_keep {H H' : Hp} {vs : List V} {rs : List (List Nat)} (h : RwZ H vs rs) (f : ∀ b o u, H b = some (.frz o u) → H' b = some (.frz o u)) : RwZ H' vs rs := by
  induction h with
  | nil => exact .nil
  | cons h t ih => exact .cons (let ⟨o, d, e⟩ := h; ⟨o, d, f _ _ _ e⟩) ih
/-- the set of a machine -/
def DsAt (K : PySem.W.Frag) (H : Hp) (p : Addr) (k : Nat) (M : ZA.Aut) : Prop := ∃ dx r e vs, H p = some (.ins (CD K) dx (dsf k r e M.n)) ∧ H r = some (.tup vs) ∧ RwZ H vs M.rows ∧ H e = some (.tup (M.ends.map V.bl))
theorem DsAt.same {K : PySem.W.Frag} {H H' : Hp} {p : Addr} {k : Nat} {M : ZA.Aut} (h : DsAt K H p k M) (s : Same H H') : DsAt K H' p k M := let ⟨dx, r, e, vs, a, b, c, d⟩ := h; ⟨dx, r, e, vs, s _ _ a, s _ _ b, c.same s, s _ _ d⟩
def spDI (K : PySem.W.Frag) : Sp := fun vs H Q _ => ∃ (p dx : Addr) (v : V) (k : Nat) (M : ZA.Aut), vs = [.ref p, v] ∧ H p = some (.ins (CD K) dx []) ∧ MaT H v M ∧ Few M (2 ^ k) 400 ∧ k ≤ 4 ∧ ∀ H', DsAt K H' p k M → Keep p H H' → Q .non H'
section
variable {P : Program} {w : World} {K : PySem.W.Frag} {mg : Str → Option Value} {base : Heap}
def MkD (P : Program) (w : World) (K : PySem.W.Frag) (mg : Str → Option Value) (base : Heap) : Prop := ∃ fd, FnOk P w K mg base CX0 2 (He.ma K (CD K) "__init__") fd ["self", "machine"] (spDI K) ∧ Binds K fd ["self", "machine"] []
theorem scDigitSet__init__ : FnScope ["self", "machine"] ["self", "machine"] (defScope iDigitSet__init__) := ⟨rfl, rfl, rfl, by decide +kernel, rfl, by decide +kernel, by decide +kernel⟩
theorem mk_D {fd : FuncData} (D : DsTx K mg) (T : Nb mg) (F : FnM K "DigitSet" "__init__" "DigitSet.__init__" iDigitSet__init__ fd) (dArity : Dn P w K mg base 1 "arity_of" ["machine"] spArity) : MkD P w K mg base := by
  refine ⟨fd, ?_, F.bindsN fun _ _ _ _ _ _ us hl => match us, hl with | [_, _], _ => rfl⟩
  refine F.ok scDigitSet__init__ (fun vs H Q E h => ?_) (fun cdv A outer s H vs Q E hr h => ?_)
  · obtain ⟨p, dx, v, k, M, rfl, _⟩ := h
    rfl
  · obtain ⟨p, dx, v, k, M, rfl, hp, ⟨m, r, e, vs, rfl, hm, hr', hR, he⟩, fM, k4, q⟩ := h
    refine ⟨_, PSs.nox (pss_cons (ps_fld (pv 0) (pe_dn dArity hr (pa_cons (pv 1) pa_nil)) rfl)
      (pss_cons (ps_fld (pv 0) (pe_ix (ix_anyK (K := K) rfl) (pv 1) pe_int (fun _ _ => rfl)) rfl)
      (pss_cons (ps_fld (pv 0) (pe_ix (ix_anyK (K := K) rfl) (pv 1) pe_int (fun _ _ => rfl)) rfl)
      (pss_one (ps_fld (pv 0) (pe_callB (call_lenA (K := K) rfl) (by rfl) T.len PySem.boot_len (pa_cons (pe_ix (ix_anyK (K := K) rfl) (pv 1) pe_int (fun _ _ => rfl)) pa_nil)) rfl))))), ?_⟩
    have tne : ∀ {a : Addr} {xs : List V}, H a = some (.tup xs) → a ≠ p := fun h z => by rw [z, hp] at h; cases h
    have mn := tne hm
    have rn := tne hr'
    have en := tne he
    refine ⟨_, rfl, .ref m, M, k, rfl, MaT.s ⟨m, r, e, vs, rfl, hm, hr', hR, he⟩, fM.ok, fM.pos, fM.wd, k4, _, rfl, p, _, dx, [], rfl, hp, D.clD, D.nA, (by show 0 < 1000; decide), ?_⟩
    refine ⟨_, rfl, m, _, _, _, rfl, rfl, .inr (SqT.of (by rw [upd_ne mn]; exact hm)), at0, _, rfl, p, _, dx, _, rfl, upd_same, D.clD, D.nR, (by show 1 < 1000; decide), ?_⟩
    refine ⟨_, rfl, m, _, _, _, rfl, rfl, .inr (SqT.of (by rw [upd_ne mn, upd_ne mn]; exact hm)), at1, _, rfl, p, _, dx, _, rfl, upd_same, D.clD, D.nE, len2 _ _ _ _, ?_⟩
    refine ⟨_, rfl, m, _, _, _, rfl, rfl, .inr (SqT.of (by rw [upd_ne mn, upd_ne mn, upd_ne mn]; exact hm)), at0, r, _, rfl, .inr (SqT.of (by rw [upd_ne rn, upd_ne rn, upd_ne rn]; exact hr')), _, rfl, p, _, dx, _, rfl, upd_same, D.clD, D.nS, len3 _ _ _ _ _ _, ?_⟩
    have kp : Keep p H (upd (upd (upd (upd H p (.ins (CD K) dx (putF "arity" (.int (k : Nat)) []))) p (.ins (CD K) dx (putF "rows" (.ref r) (putF "arity" (.int (k : Nat)) [])))) p (.ins (CD K) dx (putF "ends" (.ref e) (putF "rows" (.ref r) (putF "arity" (.int (k : Nat)) []))))) p (.ins (CD K) dx (dsf k r e vs.length))) := fun b o nb e => by rw [upd_ne nb, upd_ne nb, upd_ne nb, upd_ne nb]; exact e
    refine q _ ⟨dx, r, e, vs, ?_, kp _ _ rn hr', ?_, kp _ _ en he⟩ kp
    · rw [hR.len]
      exact upd_same
    · exact rwz_keep hR fun b o u e2 => kp _ _ (fun z => by rw [z, hp] at e2; cases e2) e2
end
end K01
set_option maxHeartbeats 4000000
namespace K01
open PySem PySem.Spec PyProof.Rows L2 Z
theorem pt_never {X : Cx} {e : Expr} : PT X e (fun _ _ _ => False) := ⟨fun _ _ _ _ _ _ h => h.elim⟩
/-- DigitSet(machine) -/
def tDs (K : PySem.W.Frag) (t : TA) : TE := fun σ H Q => t σ H fun vs H1 => ∃ (v : V) (k : Nat) (M : ZA.Aut), vs = [v] ∧ MaT H1 v M ∧ Few M (2 ^ k) 400 ∧ k ≤ 4 ∧ ∀ p H', Same H1 H' → DsAt K H' p k M → Q (.ref p) H'
theorem pe_D {X : Cx} {e : Expr} {es : List Expr} {t : TA} {p pos : Pos} {k : Nat} (D : DsTx X.K X.mg) (M : MkD X.prog X.w X.K X.mg X.base) (hr : Room k X.A) (ha : PA X (e :: es) t) (hk : 3 ≤ k := by decide) (hg : Gl X "DigitSet" := by rfl)
    (he : starEach (e :: es) X.env = (false, eval e X.env) :: starEach es X.env := by rfl) (hpl : (backTo pos (starEach es X.env)).any (·.1) = false := by rfl) :
    PE X (.Call (.Name "DigitSet" p) (e :: es) [] pos) (tDs X.K t) := by
  obtain ⟨fd, F, hb⟩ := M
  refine ⟨fun pins s σ H Q I h => ?_⟩
  refine wpAny_Call_Name_kw (ld_glob I hg D.gD ?_ (by decide))
  refine PySem.W.callWith_K (h₀ := X.base) I.ok.mod.kin D.mkD.kp (thn (ha.run pos pins s σ H _ I h) fun us s1 ⟨vs, H1, I1, r, v, k', M', ev, mt, fM, k4, q⟩ => ⟨I1.kIn, ?_⟩) he hpl
  subst ev
  refine run_make D.mkD F (hr.mono hk) hb .nil pass0 I1 r fun x dx nx nd ne => ?_
  have s0 : Same H1 (upd (upd H1 dx (.own x)) x (.ins (CD X.K) dx [])) := Same.new _ (Same.new _ (Same.refl H1) nd) (by rw [upd_ne (Ne.symm ne)]; exact nx)
  exact ⟨x, dx, v, k', M', rfl, upd_same, MaT.same mt s0, fM, k4, fun H' hx kp => ⟨rfl, q x H' (Same.made (Same.refl H1) nx nd kp) hx⟩⟩
def spLeastSet (K : PySem.W.Frag) : Sp := fun vs H Q _ => ∃ (r e : Addr) (A : ZA.Aut) (k : Nat), vs = [.ref r, .ref e] ∧ RowsAt H r A.rows ∧ EndsAt H e A.ends ∧ Few A (2 ^ k) 400 ∧ k ≤ 4 ∧ ∀ p H' M, Same H H' → DsAt K H' p k M → ZA.Least M (A.lang 0) → Few M (2 ^ k) 400 → Q (.ref p) H'
/-- which cases may be asked -/
def FitC (css : List (List Cond)) : Prop := css = [] ∨ (∃ c, css = [c] ∧ c.length ≤ 2) ∨ (∃ a b, css = [[a], [b]]) ∨ (∃ c, css = [c, c] ∧ c.length ≤ 2) ∨ ∃ a b, css = [[a], [b], [a]]
def FitG (css : List (List Cond)) : Prop := css = [] ∨ (∃ c, css = [c] ∧ c.length ≤ 2) ∨ (∃ a b, css = [[a], [b]]) ∨ (∃ c d, css = [c, d] ∧ c.length ≤ 2 ∧ d.length ≤ 2 ∧ ∀ k u, saysAll k c u = saysAll k d u) ∨ ∃ a b c, css = [[a], [b], [c]] ∧ (c = a ∨ c = b ∨ a = b)
theorem FitC.g {css : List (List Cond)} (h : FitC css) : FitG css := by
  rcases h with h | h | h | ⟨c, h, l⟩ | ⟨a, b, h⟩
  · exact .inl h
  · exact .inr (.inl h)
  · exact .inr (.inr (.inl h))
  · exact .inr (.inr (.inr (.inl ⟨c, c, h, l, l, fun _ _ => rfl⟩)))
  · exact .inr (.inr (.inr (.inr ⟨a, b, a, h, .inl rfl⟩)))
def caseSays (k : Nat) (css : List (List Cond)) (u : List Nat) : Bool := css.any fun cds => saysAll k cds u
def spDigitSet (K : PySem.W.Frag) (TS : List NdefX.NTab) : Sp := fun vs H Q _ => ∃ (k : Nat) (v : V) (css : List (List Cond)), vs = [.int (k : Nat), v] ∧ CasesG H v css ∧ 1 ≤ k ∧ k ≤ 4 ∧ FitG css ∧ (∀ cds ∈ css, ∀ c ∈ cds, c.Ok k) ∧ NdefX.TabsN TS H ∧
  ∀ p H' M, LamX.ExtN H H' → NdefX.TabsN TS H' → DsAt K H' p k M → ZA.Least M (caseSays k css) → Few M (2 ^ k) 400 → Q (.ref p) H'
def spNone (K : PySem.W.Frag) (b : Bool) : Sp := fun vs H Q _ => ∃ (p : Addr) (k : Nat) (M : ZA.Aut), vs = [.ref p] ∧ DsAt K H p k M ∧ M.Ok ∧ 0 < M.n ∧ Q (.bl (decide (M.n = 1) && (if b then M.endAt 0 else !M.endAt 0))) H
theorem any_out {k : Nat} : ∀ {os : List (Option (List ZA.Aut))} {css : List (List Cond)}, os.length = css.length → (∀ (i : Nat) o c, os[i]? = some o → css[i]? = some c → Out k c o) → ∀ u, anyAll (os.filterMap id) u = caseSays k css u
  | [], [], _, _, u => rfl
  | [], _ :: _, h, _, _ => by cases h
  | _ :: _, [], h, _, _ => by cases h
  | none :: os, c :: css, h, ho, u => by
    have ih := any_out (os := os) (css := css) (by simpa using h) (fun i o c a b => ho (i + 1) o c a b) u
    have h0 : ∀ u, saysAll k c u = false := ho 0 none c rfl rfl
    show anyAll (os.filterMap id) u = (saysAll k c u || caseSays k css u)
    rw [ih, h0 u, Bool.false_or]
  | some Ms :: os, c :: css, h, ho, u => by
    have ih := any_out (os := os) (css := css) (by simpa using h) (fun i o c a b => ho (i + 1) o c a b) u
    have h0 := (ho 0 (some Ms) c rfl rfl).2.2
    show (Ms.all (fun M => M.lang 0 u) || anyAll (os.filterMap id) u) = (saysAll k c u || caseSays k css u)
    rw [ih, h0 u]
theorem few_out {k : Nat} {os : List (Option (List ZA.Aut))} {css : List (List Cond)} (l : os.length = css.length) (ho : ∀ (i : Nat) o c, os[i]? = some o → css[i]? = some c → Out k c o) : ∀ Ms ∈ os.filterMap id, ∀ M ∈ Ms, Few M (2 ^ k) 20 := by
  intro Ms h
  obtain ⟨o, h1, h2⟩ := List.mem_filterMap.mp h
  have h2 : o = some Ms := h2
  subst h2
  obtain ⟨i, hi⟩ := List.mem_iff_getElem?.mp h1
  have li := (List.getElem?_eq_some_iff.mp hi).1
  exact (ho i _ _ hi (List.getElem?_eq_getElem (by omega))).2.1
theorem one_two {w' : Nat} {M1 M2 : List ZA.Aut} (f : ∀ Ms ∈ [M1, M2], ∀ M ∈ Ms, Few M w' 20) (h1 : M1.length ≤ 1) (h2 : M2.length ≤ 1) : Fit w' [M1, M2] := by
  refine ⟨f, ?_⟩
  match M1, M2, h1, h2 with
  | [], _, _, _ => exact .inl (by simp)
  | _, [], _, _ => exact .inl (by simp)
  | [A], [B], _, _ => exact .inr (.inr (.inr (.inl ⟨A, B, rfl⟩)))
theorem one_one {w' : Nat} {M1 : List ZA.Aut} (f : ∀ Ms ∈ [M1], ∀ M ∈ Ms, Few M w' 20) (h1 : M1.length ≤ 2) : Fit w' [M1] := ⟨f, .inr (.inr (.inl ⟨M1, rfl, h1⟩))⟩
theorem fit_of {k : Nat} {os : List (Option (List ZA.Aut))} {css : List (List Cond)} (fc : FitG css) (l : os.length = css.length) (ho : ∀ (i : Nat) o c, os[i]? = some o → css[i]? = some c → Out k c o) : Fit (2 ^ k) (os.filterMap id) ∧ ((os.filterMap id).map List.length).sum ≤ 4 := by
  have few := few_out l ho
  rcases fc with rfl | ⟨c, rfl, lc⟩ | ⟨a, b, rfl⟩ | ⟨c, d, rfl, lc, ld, ecd⟩ | ⟨a, b, c, rfl, eabc⟩
  · have : os = [] := List.length_eq_zero_iff.mp l
    subst this
    exact ⟨⟨few, .inr (.inl rfl)⟩, by simp⟩
  · match os, l, ho, few with
    | [none], _, ho, few => exact ⟨⟨few, .inr (.inl rfl)⟩, by simp⟩
    | [some M1], _, ho, few =>
      have l1 := (ho 0 _ _ rfl rfl).1
      exact ⟨one_one few (by omega), by simp; omega⟩
  · match os, l, ho, few with
    | [none, none], _, ho, few => exact ⟨⟨few, .inr (.inl rfl)⟩, by simp⟩
    | [some M1, none], _, ho, few =>
      have l1 : M1.length ≤ 1 := (ho 0 _ _ rfl rfl).1
      exact ⟨one_one few (by omega), by simp; omega⟩
    | [none, some M1], _, ho, few =>
      have l1 : M1.length ≤ 1 := (ho 1 _ _ rfl rfl).1
      exact ⟨one_one few (by omega), by simp; omega⟩
    | [some M1, some M2], _, ho, few =>
      have l1 : M1.length ≤ 1 := (ho 0 _ _ rfl rfl).1
      have l2 : M2.length ≤ 1 := (ho 1 _ _ rfl rfl).1
      exact ⟨one_two few l1 l2, by simp; omega⟩
  · match os, l, ho, few with
    | [none, none], _, ho, few => exact ⟨⟨few, .inr (.inl rfl)⟩, by simp⟩
    | [some M1, none], _, ho, few =>
      have l1 := (ho 0 _ _ rfl rfl).1
      exact ⟨one_one few (by omega), by simp; omega⟩
    | [none, some M1], _, ho, few =>
      have l1 := (ho 1 _ _ rfl rfl).1
      exact ⟨one_one few (by omega), by simp; omega⟩
    | [some M1, some M2], _, ho, few =>
      have o1 := ho 0 _ _ rfl rfl
      have o2 := ho 1 _ _ rfl rfl
      have l1 := o1.1
      have l2 := o2.1
      exact ⟨⟨few, .inr (.inr (.inr (.inr (.inl ⟨M1, M2, rfl, by omega, by omega, fun u => by rw [o1.2.2 u, o2.2.2 u, ecd]⟩))))⟩, by simp; omega⟩
  · match os, l, ho, few with
    | [none, none, none], _, ho, few => exact ⟨⟨few, .inr (.inl rfl)⟩, by simp⟩
    | [some M1, none, none], _, ho, few =>
      have l1 : M1.length ≤ 1 := (ho 0 _ _ rfl rfl).1
      exact ⟨one_one few (by omega), by simp; omega⟩
    | [none, some M1, none], _, ho, few =>
      have l1 : M1.length ≤ 1 := (ho 1 _ _ rfl rfl).1
      exact ⟨one_one few (by omega), by simp; omega⟩
    | [none, none, some M1], _, ho, few =>
      have l1 : M1.length ≤ 1 := (ho 2 _ _ rfl rfl).1
      exact ⟨one_one few (by omega), by simp; omega⟩
    | [some M1, some M2, none], _, ho, few =>
      have l1 : M1.length ≤ 1 := (ho 0 _ _ rfl rfl).1
      have l2 : M2.length ≤ 1 := (ho 1 _ _ rfl rfl).1
      exact ⟨one_two few l1 l2, by simp; omega⟩
    | [some M1, none, some M2], _, ho, few =>
      have l1 : M1.length ≤ 1 := (ho 0 _ _ rfl rfl).1
      have l2 : M2.length ≤ 1 := (ho 2 _ _ rfl rfl).1
      exact ⟨one_two few l1 l2, by simp; omega⟩
    | [none, some M1, some M2], _, ho, few =>
      have l1 : M1.length ≤ 1 := (ho 1 _ _ rfl rfl).1
      have l2 : M2.length ≤ 1 := (ho 2 _ _ rfl rfl).1
      exact ⟨one_two few l1 l2, by simp; omega⟩
    | [some M1, some M2, some M3], _, ho, few =>
      have o1 := ho 0 _ _ rfl rfl
      have o2 := ho 1 _ _ rfl rfl
      have o3 := ho 2 _ _ rfl rfl
      have l1 : M1.length ≤ 1 := o1.1
      have l2 : M2.length ≤ 1 := o2.1
      have l3 : M3.length ≤ 1 := o3.1
      refine ⟨⟨few, ?_⟩, by simp; omega⟩
      match M1, M2, M3, l1, l2, l3, o1.2.2, o2.2.2, o3.2.2 with
      | [], _, _, _, _, _, _, _, _ => exact .inl (by simp)
      | _, [], _, _, _, _, _, _, _ => exact .inl (by simp)
      | _, _, [], _, _, _, _, _, _ => exact .inl (by simp)
      | [A], [B], [C], _, _, _, e1, e2, e3 =>
        refine .inr (.inr (.inr (.inr (.inr ⟨A, B, C, rfl, ?_⟩))))
        rcases eabc with rfl | rfl | rfl
        · exact .inl fun u => by simpa using (e3 u).trans (e1 u).symm
        · exact .inr (.inl fun u => by simpa using (e3 u).trans (e2 u).symm)
        · exact .inr (.inr fun u => by simpa using (e1 u).trans (e2 u).symm)
section
variable {P : Program} {w : World} {K : PySem.W.Frag} {mg : Str → Option Value} {base : Heap}
theorem sc_least_told_set : FnScope ["rows", "ends", "machine"] ["rows", "ends"] (defScope s_least_told_set) := ⟨rfl, rfl, rfl, by decide +kernel, rfl, by decide +kernel, by decide +kernel⟩
theorem ok_leastSet {f : Addr} {fd : FuncData} (F : FnP K "least_told_set" s_least_told_set f fd) (T : Nb mg) (D : DsTx K mg) (MD : MkD P w K mg base) (hms : ∃ t, mg "MOST_STATES" = some (.int 400 t)) (dMinUp : Dn P w K mg base 3 "minimal_up_to" ["rows", "ends", "most"] spMinUp) :
    FnOk P w K mg base CX0 4 f fd ["rows", "ends"] (spLeastSet K) := by
  refine F.ok sc_least_told_set (fun vs H Q E h => ?_) (fun cdv A outer s H vs Q E hr h => ?_)
  · obtain ⟨r, e, A, k, rfl, _⟩ := h
    rfl
  · obtain ⟨r, e, C, k, rfl, hR, hE, fC, k4, q⟩ := h
    obtain ⟨tMOST_STATES, hMOST_STATES⟩ := hms
    refine ⟨_, PSs.nox (pss_cons (ps_set (i := 2) sc_least_told_set.nd rfl (Or.inl rfl) (pe_dn dMinUp hr (pa_cons (pv 0) (pa_cons (pv 1) (pa_cons (pe_glob (v := .int (400)) rfl hMOST_STATES ⟨tMOST_STATES, rfl⟩) pa_nil)))))
      (pss_cons (ps_if (pt_cmpR op_isN (pv 2) pe_non (nomark _)) (pss_one ps_never) pss_nil)
      (pss_one (ps_ret (pe_D D MD hr (pa_cons (pv 2) pa_nil)))))), ?_⟩
    have w16 : 2 ^ k ≤ 1000 := Nat.le_trans (Nat.pow_le_pow_right (by decide) k4) (by decide : 2 ^ 4 ≤ 1000)
    refine ⟨_, rfl, _, rfl, r, e, C, rfl, hR, hE, fC.ok, fC.pos, fC.few, by rw [fC.wd]; exact w16, fun v H1 M met s1 mt td => ?_⟩
    have mt2 := mt
    obtain ⟨m, _, _, _, rfl, _⟩ := mt
    refine normG (σ' := [some (.ref r), some (.ref e), some (.ref m)]) rfl ?_
    have fM : Few M (2 ^ k) 400 := ⟨td.ok fC.ok, td.pos, Nat.le_trans td.few fC.few, td.wd.trans fC.wd⟩
    refine ⟨_, rfl, rfl, _, rfl, if_no rfl (un_next ⟨_, rfl, .ref m, k, M, rfl, mt2, fM, k4, fun p H' s2 ds => q p H' M (s1.trans s2) ds ⟨C, met, fC.ok, fC.pos, td, fun u => rfl⟩ fM⟩)⟩
theorem sc_digit_set : FnScope ["arity", "cases", "machines", "rows", "ends"] ["arity", "cases"] (defScope s_digit_set) := ⟨rfl, rfl, rfl, by decide +kernel, rfl, by decide +kernel, by decide +kernel⟩
theorem ok_digitSet {f : Addr} {fd : FuncData} {TS : List NdefX.NTab} (F : FnP K "digit_set" s_digit_set f fd) (T : Nb mg) (dCaseM : Dn P w K mg base 7 "case_machines" ["arity", "cases"] (spCaseM TS)) (dLab : Dn P w K mg base 1 "is_laborious" ["cases"] spLab) (dMOfC : Dn P w K mg base 6 "machine_of_cases" ["arity", "cases"] spMOfC) (dLeastSet : Dn P w K mg base 4 "least_told_set" ["rows", "ends"] (spLeastSet K)) :
    FnOk P w K mg base CX0 8 f fd ["arity", "cases"] (spDigitSet K TS) := by
  refine F.ok sc_digit_set (fun vs H Q E h => ?_) (fun cdv A outer s H vs Q E hr h => ?_)
  · obtain ⟨k, v, css, rfl, _⟩ := h
    rfl
  · obtain ⟨k, v, css, rfl, hc, k1, k4, fit, okc, tabs, q⟩ := h
    refine ⟨_, PSs.nox (pss_cons (ps_set (i := 2) sc_digit_set.nd rfl (Or.inl rfl) (pe_dn dCaseM hr (pa_cons (pv 0) (pa_cons (pv 1) pa_nil))))
      (pss_cons (ps_if (PW.pt (pw_and (pt_val (pe_dn dLab hr (pa_cons (pv 2) pa_nil))) (pw_and1 pt_never))) (pss_one ps_never) pss_nil)
      (pss_cons (ps_asg (pe_dn dMOfC hr (pa_cons (pv 0) (pa_cons (pv 2) pa_nil))) (pg_tup (by rfl) (pgs_cons (pg_name (i := 3) sc_digit_set.nd rfl (.inl rfl)) (pgs_cons (pg_name (i := 4) sc_digit_set.nd rfl (.inl rfl)) pgs_nil))))
      (pss_one (ps_ret (pe_dn dLeastSet hr (pa_cons (pv 3) (pa_cons (pv 4) pa_nil)))))))), ?_⟩
    have l3 : css.length ≤ 3 ∧ ∀ cds ∈ css, cds.length ≤ 2 := by
      rcases fit with h | ⟨c, h, lc⟩ | ⟨a, b, h⟩ | ⟨c, d, h, lc, ld, _⟩ | ⟨a, b, c, h, _⟩ <;> subst h <;> simp <;> omega
    refine ⟨_, rfl, _, rfl, k, v, css, rfl, hc, k1, k4, by omega, fun cds h => ⟨by have := l3.2 cds h; omega, okc cds h⟩, tabs, fun v' H1 os e1 tb1 lo ho ms => ?_⟩
    refine normG (σ' := [some (.int (k : Nat)), some v, some v', none, none]) rfl ?_
    obtain ⟨ft, sm⟩ := fit_of fit lo ho
    refine ⟨_, rfl, v', os.filterMap id, 2 ^ k, rfl, ms, ft.1, sm, _, rfl, if_no rfl ?_⟩
    refine un_next ⟨_, rfl, _, rfl, k, v', os.filterMap id, rfl, ms, k1, k4, ft, fun v2 H2 C s2 mc fC lg => ?_⟩
    obtain ⟨m, r, e, rfl, hm, hR, hE⟩ := mc
    refine ⟨m, _, rfl, SqT.of hm, rfl, _, _, rfl, _, _, rfl, rfl, ?_⟩
    refine norm (N := fun σ _ => _) (σ' := [some (.int (k : Nat)), some v, some v', some (.ref r), some (.ref e)]) rfl ?_
    refine ⟨_, rfl, _, rfl, r, e, C, k, rfl, hR, hE, fC, k4, fun p H' M s3 ds lst fM => q p H' M (e1.trans (.of (s2.trans s3))) ((tb1.ext s2).ext s3) ds (lst.congr fun u => by rw [lg u, any_out lo ho u]) fM⟩
theorem sc_is_none : FnScope ["a"] ["a"] (defScope s_is_none) := ⟨rfl, rfl, rfl, by decide +kernel, rfl, by decide +kernel, by decide +kernel⟩
theorem ok_isNone {f : Addr} {fd : FuncData} (F : FnP K "is_none" s_is_none f fd) (T : Nb mg) (D : DsTx K mg) : FnOk P w K mg base CX0 1 f fd ["a"] (spNone K false) := by
  refine F.ok sc_is_none (fun vs H Q E h => ?_) (fun cdv A outer s H vs Q E hr h => ?_)
  · obtain ⟨p, k, M, rfl, _⟩ := h
    rfl
  · obtain ⟨p, k, M, rfl, ⟨dx, r, e, vs, hp, hr', hR, he⟩, ok, n0, q⟩ := h
    refine ⟨_, PSs.nox (pss_one (ps_ret (pe_and (pe_cmpR op_eq (pe_fld (pv 0) rfl) pe_int (nomark _)) (pe_one (pe_not (pe_ix (ix_anyK (K := K) rfl) (pe_fld (pv 0) rfl) pe_int (fun _ _ => rfl))))))), ?_⟩
    have e0 : (M.ends.map V.bl)[0]? = some (V.bl (M.endAt 0)) := by
      have : 0 < M.ends.length := by rw [ok.ends]; exact n0
      rw [List.getElem?_map, List.getElem?_eq_getElem this]
      show some (V.bl _) = some (V.bl (M.ends.getD 0 false))
      rw [List.getD_eq_getElem?_getD, List.getElem?_eq_getElem this]
      rfl
    refine ⟨_, rfl, p, _, dx, _, _, rfl, hp, D.clD, D.nS, dsf_s, rfl, _, rfl, ite2 (fun z => ?_) (fun z => ?_)⟩
    · have z : M.n = 1 := by
        have := of_decide_eq_true z
        injection this with this
        omega
      rw [decide_eq_true z] at q
      exact ⟨_, rfl, p, _, dx, _, _, rfl, hp, D.clD, D.nE, dsf_e, e, _, _, _, rfl, rfl, .inr (SqT.of he), atN (j := 0) e0, _, rfl, q⟩
    · have z : ¬ M.n = 1 := fun h => z (decide_eq_true (by rw [h]; rfl))
      rw [decide_eq_false z] at q
      exact q
theorem sc_is_all : FnScope ["a"] ["a"] (defScope s_is_all) := ⟨rfl, rfl, rfl, by decide +kernel, rfl, by decide +kernel, by decide +kernel⟩
theorem ok_isAll {f : Addr} {fd : FuncData} (F : FnP K "is_all" s_is_all f fd) (T : Nb mg) (D : DsTx K mg) : FnOk P w K mg base CX0 1 f fd ["a"] (spNone K true) := by
  refine F.ok sc_is_all (fun vs H Q E h => ?_) (fun cdv A outer s H vs Q E hr h => ?_)
  · obtain ⟨p, k, M, rfl, _⟩ := h
    rfl
  · obtain ⟨p, k, M, rfl, ⟨dx, r, e, vs, hp, hr', hR, he⟩, ok, n0, q⟩ := h
    refine ⟨_, PSs.nox (pss_one (ps_ret (pe_and (pe_cmpR op_eq (pe_fld (pv 0) rfl) pe_int (nomark _)) (pe_one (pe_ix (ix_anyK (K := K) rfl) (pe_fld (pv 0) rfl) pe_int (fun _ _ => rfl)))))), ?_⟩
    have e0 : (M.ends.map V.bl)[0]? = some (V.bl (M.endAt 0)) := by
      have : 0 < M.ends.length := by rw [ok.ends]; exact n0
      rw [List.getElem?_map, List.getElem?_eq_getElem this]
      show some (V.bl _) = some (V.bl (M.ends.getD 0 false))
      rw [List.getD_eq_getElem?_getD, List.getElem?_eq_getElem this]
      rfl
    refine ⟨_, rfl, p, _, dx, _, _, rfl, hp, D.clD, D.nS, dsf_s, rfl, _, rfl, ite2 (fun z => ?_) (fun z => ?_)⟩
    · have z : M.n = 1 := by
        have := of_decide_eq_true z
        injection this with this
        omega
      rw [decide_eq_true z] at q
      exact ⟨_, rfl, p, _, dx, _, _, rfl, hp, D.clD, D.nE, dsf_e, e, _, _, _, rfl, rfl, .inr (SqT.of he), atN (j := 0) e0, q⟩
    · have z : ¬ M.n = 1 := fun h => z (decide_eq_true (by rw [h]; rfl))
      rw [decide_eq_false z] at q
      exact q
end
end K01
set_option maxHeartbeats 4000000
namespace K01
open PySem PySem.Spec PyProof.Rows L2 Z
def InRow (K : PySem.W.Frag) (H : Hp) (k : Nat) (x : V) : Option (List Nat) → Prop
  | some ns => (k = 1 ∧ ∃ n : Nat, ns = [n] ∧ x = .int (n : Nat)) ∨ ∃ a, x = .ref a ∧ (H a = some (.lst (ns.map nV)) ∨ H a = some (.tup (ns.map nV)))
  | none => (natV x = true → k ≠ 1) ∧ ∃ xs, RowIs K H x xs ∧ rowSays k xs = false
def InSays (M : ZA.Aut) (k : Nat) (b : Bool) : Option (List Nat) → Prop
  | some ns => ns.length = k ∧ (∀ n ∈ ns, n < 2 ^ 200) ∧ ∀ L, (∀ n ∈ ns, n < 2 ^ L) → M.lang 0 (ZA.word ns L) = b
  | none => b = false
def spIn (K : PySem.W.Frag) : Sp := fun vs H Q _ => ∃ (p : Addr) (x : V) (k : Nat) (M : ZA.Aut) (row : Option (List Nat)) (b : Bool), vs = [.ref p, x] ∧ DsAt K H p k M ∧ Few M (2 ^ k) 400 ∧ 1 ≤ k ∧ k ≤ 4 ∧ Kin K H x ∧ InRow K H k x row ∧ InSays M k b row ∧ ∀ H', Same H H' → Q (.bl b) H'
theorem nats_row {K : PySem.W.Frag} {H : Hp} {a : Addr} {ns : List Nat} (h : H a = some (.lst (ns.map nV)) ∨ H a = some (.tup (ns.map nV))) (l : ns.length ≤ 4) : RowIs K H (.ref a) (some (ns.map nV)) := ⟨a, rfl, h, by rw [List.length_map]; omega, fun x hx => by
  obtain ⟨n, _, rfl⟩ := List.mem_map.mp hx
  exact ⟨"int", .int _, by simp [tyN]⟩⟩
theorem nats_says (k : Nat) (ns : List Nat) (l : ns.length = k) : rowSays k (some (ns.map nV)) = true := by
  show (decide ((ns.map nV).length = k) && (ns.map nV).all natV) = true
  rw [List.length_map, decide_eq_true l, Bool.true_and, List.all_map, List.all_eq_true]
  intro n _
  show decide ((0 : Int) ≤ (n : Int)) = true
  exact decide_eq_true (by omega)
section
variable {P : Program} {w : World} {K : PySem.W.Frag} {mg : Str → Option Value} {base : Heap}
theorem scDigitSet__contains__ : FnScope ["self", "x", "numbers"] ["self", "x"] (defScope iDigitSet__contains__) := ⟨rfl, rfl, rfl, by decide +kernel, rfl, by decide +kernel, by decide +kernel⟩
theorem om_in {fd : FuncData} (D : DsTx K mg) (T : Nb mg) (F : FnM K "DigitSet" "__contains__" "DigitSet.__contains__" iDigitSet__contains__ fd) (hm : Meth K (CD K) "__contains__" (He.ma K (CD K) "__contains__")) (dIsNat : Dn P w K mg base 2 "is_natural" ["value"] (spIsNat K)) (dIsRow : Dn P w K mg base 3 "is_row" ["value", "arity"] (spIsRow K)) (dBehind : Dn P w K mg base 1 "state_behind" ["rows", "numbers"] (spBehind K)) :
    Om P w K mg base (CD K) 4 "__contains__" (spIn K) := by
  refine ⟨_, fd, ["self", "x"], ?_, hm.at_, hm.fn, F.bindsN fun _ _ _ _ _ _ us hl => match us, hl with | [_, _], _ => rfl⟩
  refine F.ok scDigitSet__contains__ (fun vs H Q E h => ?_) (fun cdv A outer s H vs Q E hr h => ?_)
  · obtain ⟨p, x, k, M, row, b, rfl, _⟩ := h
    rfl
  · obtain ⟨p, x, k, M, row, b, rfl, hD, fM, k1, k4, kx, hrow, hb, q⟩ := h
    refine ⟨_, PSs.nox (pss_cons (ps_set (i := 2) scDigitSet__contains__.nd rfl (Or.inl rfl) (pe_ifExp (PW.pt (pw_and (pt_cmpR op_eq (pe_fld (pv 0) rfl) pe_int (nomark _)) (pw_and1 (pt_val (pe_dn dIsNat hr (pa_cons (pv 1) pa_nil)))))) (pe_tup (pa_cons (pv 1) pa_nil)) (pv 1)))
      (pss_one (ps_ret (pe_and (pe_dn dIsRow hr (pa_cons (pv 2) (pa_cons (pe_fld (pv 0) rfl) pa_nil))) (pe_one (pe_ix (ix_anyK (K := K) rfl) (pe_fld (pv 0) rfl) (pe_dn dBehind hr (pa_cons (pe_fld (pv 0) rfl) (pa_cons (pv 2) pa_nil))) (fun _ _ => rfl))))))), ?_⟩
    obtain ⟨dx, r, e, vs, hp, hr', hR, he⟩ := id hD
    match row, hrow, hb with
    | none, ⟨nn, xs, hx, rs⟩, hb =>
      have hb : b = false := hb
      subst hb
      refine ⟨_, rfl, p, _, dx, _, _, rfl, hp, D.clD, D.nA, dsf_a, rfl, _, rfl, ite2 (fun z => ?_) (fun z => ?_)⟩
      · have z : k = 1 := by
          have := of_decide_eq_true z
          injection this with this
          omega
        have nx : natV x = false := by
          cases y : natV x with
          | true => exact absurd z (nn y)
          | false => rfl
        refine ⟨_, rfl, x, rfl, kx, _, rfl, if_no nx ⟨_, rfl, ?_⟩⟩
        refine normG (σ' := [some (.ref p), some x, some x]) rfl ?_
        refine ⟨_, rfl, _, rfl, p, _, dx, _, _, rfl, hp, D.clD, D.nA, dsf_a, x, k, xs, rfl, hx, fun H2 s2 => ?_⟩
        rw [rs]
        exact ⟨_, rfl, iteF (q _ s2)⟩
      · refine if_no rfl ⟨_, rfl, ?_⟩
        refine normG (σ' := [some (.ref p), some x, some x]) rfl ?_
        refine ⟨_, rfl, _, rfl, p, _, dx, _, _, rfl, hp, D.clD, D.nA, dsf_a, x, k, xs, rfl, hx, fun H2 s2 => ?_⟩
        rw [rs]
        exact ⟨_, rfl, iteF (q _ s2)⟩
    | some ns, .inl ⟨e1, n, en, ex⟩, ⟨lk, bd, says⟩ =>
      subst ex
      refine ⟨_, rfl, p, _, dx, _, _, rfl, hp, D.clD, D.nA, dsf_a, rfl, _, rfl, ite2 (fun z => ?_) (fun z => absurd (decide_eq_true (by rw [e1]; rfl)) z)⟩
      refine ⟨_, rfl, _, rfl, kx, _, rfl, if_yes (decide_eq_true (show (0 : Int) ≤ (n : Int) by omega)) ⟨_, rfl, sz1, fun A0 hA0 => ?_⟩⟩
      have s1 := same_new (o := .tup [V.int (n : Nat)]) (Same.refl H) hA0
      have hy : upd H A0 (.tup [V.int (n : Nat)]) A0 = some (.lst (ns.map nV)) ∨ upd H A0 (.tup [V.int (n : Nat)]) A0 = some (.tup (ns.map nV)) := .inr (by rw [en]; exact upd_same)
      generalize upd H A0 (.tup [V.int (n : Nat)]) = H1 at s1 hy ⊢
      refine normG (σ' := [some (.ref p), some (.int (n : Nat)), some (.ref A0)]) rfl ?_
      refine ⟨_, rfl, _, rfl, p, _, dx, _, _, rfl, s1 _ _ hp, D.clD, D.nA, dsf_a, .ref A0, k, some (ns.map nV), rfl, nats_row hy (by omega), fun H2 s2 => ?_⟩
      rw [nats_says k ns lk]
      have s12 := s1.trans s2
      have hy2 : H2 A0 = some (.lst (ns.map nV)) ∨ H2 A0 = some (.tup (ns.map nV)) := hy.elim (fun h => .inl (s2 _ _ h)) fun h => .inr (s2 _ _ h)
      refine ⟨_, rfl, iteT ?_⟩
      refine ⟨_, rfl, p, _, dx, _, _, rfl, s12 _ _ hp, D.clD, D.nE, dsf_e, _, rfl, p, _, dx, _, _, rfl, s12 _ _ hp, D.clD, D.nR, dsf_r, _, rfl, r, A0, M, ns, rfl, ⟨vs, .inr (.inl (s12 _ _ hr')), (hR.same s12).rw⟩, hy2, fM.ok, fM.pos, by rw [fM.wd, lk], by omega, by omega, bd, fun st L H3 s3 big es lt => ?_⟩
      have e0 : (M.ends.map V.bl)[st]? = some (V.bl (M.endAt st)) := by
        have : st < M.ends.length := by rw [fM.ok.ends]; exact lt
        rw [List.getElem?_map, List.getElem?_eq_getElem this]
        show some (V.bl _) = some (V.bl (M.ends.getD st false))
        rw [List.getD_eq_getElem?_getD, List.getElem?_eq_getElem this]
        rfl
      refine ⟨e, _, _, _, rfl, rfl, .inr (SqT.of ((s12.trans s3) _ _ he)), atN (j := st) e0, ?_⟩
      rw [es, says L big]
      exact q _ (s12.trans s3)
    | some ns, .inr ⟨A0, ex, hy⟩, ⟨lk, bd, says⟩ =>
      subst ex
      have s1 := Same.refl H
      refine ⟨_, rfl, p, _, dx, _, _, rfl, hp, D.clD, D.nA, dsf_a, rfl, _, rfl, ite2 (fun z => ?_) (fun z => ?_)⟩
      · refine ⟨_, rfl, _, rfl, kx, _, rfl, if_no rfl ⟨_, rfl, ?_⟩⟩
        refine normG (σ' := [some (.ref p), some (.ref A0), some (.ref A0)]) rfl ?_
        refine ⟨_, rfl, _, rfl, p, _, dx, _, _, rfl, s1 _ _ hp, D.clD, D.nA, dsf_a, .ref A0, k, some (ns.map nV), rfl, nats_row hy (by omega), fun H2 s2 => ?_⟩
        rw [nats_says k ns lk]
        have s12 := s1.trans s2
        have hy2 : H2 A0 = some (.lst (ns.map nV)) ∨ H2 A0 = some (.tup (ns.map nV)) := hy.elim (fun h => .inl (s2 _ _ h)) fun h => .inr (s2 _ _ h)
        refine ⟨_, rfl, iteT ?_⟩
        refine ⟨_, rfl, p, _, dx, _, _, rfl, s12 _ _ hp, D.clD, D.nE, dsf_e, _, rfl, p, _, dx, _, _, rfl, s12 _ _ hp, D.clD, D.nR, dsf_r, _, rfl, r, A0, M, ns, rfl, ⟨vs, .inr (.inl (s12 _ _ hr')), (hR.same s12).rw⟩, hy2, fM.ok, fM.pos, by rw [fM.wd, lk], by omega, by omega, bd, fun st L H3 s3 big es lt => ?_⟩
        have e0 : (M.ends.map V.bl)[st]? = some (V.bl (M.endAt st)) := by
          have : st < M.ends.length := by rw [fM.ok.ends]; exact lt
          rw [List.getElem?_map, List.getElem?_eq_getElem this]
          show some (V.bl _) = some (V.bl (M.ends.getD st false))
          rw [List.getD_eq_getElem?_getD, List.getElem?_eq_getElem this]
          rfl
        refine ⟨e, _, _, _, rfl, rfl, .inr (SqT.of ((s12.trans s3) _ _ he)), atN (j := st) e0, ?_⟩
        rw [es, says L big]
        exact q _ (s12.trans s3)
      · refine if_no rfl ⟨_, rfl, ?_⟩
        refine normG (σ' := [some (.ref p), some (.ref A0), some (.ref A0)]) rfl ?_
        refine ⟨_, rfl, _, rfl, p, _, dx, _, _, rfl, s1 _ _ hp, D.clD, D.nA, dsf_a, .ref A0, k, some (ns.map nV), rfl, nats_row hy (by omega), fun H2 s2 => ?_⟩
        rw [nats_says k ns lk]
        have s12 := s1.trans s2
        have hy2 : H2 A0 = some (.lst (ns.map nV)) ∨ H2 A0 = some (.tup (ns.map nV)) := hy.elim (fun h => .inl (s2 _ _ h)) fun h => .inr (s2 _ _ h)
        refine ⟨_, rfl, iteT ?_⟩
        refine ⟨_, rfl, p, _, dx, _, _, rfl, s12 _ _ hp, D.clD, D.nE, dsf_e, _, rfl, p, _, dx, _, _, rfl, s12 _ _ hp, D.clD, D.nR, dsf_r, _, rfl, r, A0, M, ns, rfl, ⟨vs, .inr (.inl (s12 _ _ hr')), (hR.same s12).rw⟩, hy2, fM.ok, fM.pos, by rw [fM.wd, lk], by omega, by omega, bd, fun st L H3 s3 big es lt => ?_⟩
        have e0 : (M.ends.map V.bl)[st]? = some (V.bl (M.endAt st)) := by
          have : st < M.ends.length := by rw [fM.ok.ends]; exact lt
          rw [List.getElem?_map, List.getElem?_eq_getElem this]
          show some (V.bl _) = some (V.bl (M.ends.getD st false))
          rw [List.getD_eq_getElem?_getD, List.getElem?_eq_getElem this]
          rfl
        refine ⟨e, _, _, _, rfl, rfl, .inr (SqT.of ((s12.trans s3) _ _ he)), atN (j := st) e0, ?_⟩
        rw [es, says L big]
        exact q _ (s12.trans s3)
end
end K01
set_option maxHeartbeats 4000000
namespace K01
open PySem PySem.Spec PyProof.Rows L2 Z
def spEqS (K : PySem.W.Frag) : Sp := fun vs H Q _ => ∃ (p : Addr) (y : V) (k : Nat) (M : ZA.Aut), vs = [.ref p, y] ∧ DsAt K H p k M ∧ ((Kin K H y ∧ Q (.bl false) H) ∨ ∃ p2 k2 N, y = .ref p2 ∧ DsAt K H p2 k2 N ∧ Q (.bl (decide (M.rows = N.rows ∧ M.ends = N.ends))) H)
theorem DsAt.ty {K : PySem.W.Frag} {mg : Str → Option Value} (D : DsTx K mg) {H : Hp} {p : Addr} {k : Nat} {M : ZA.Aut} (h : DsAt K H p k M) : TyOf K H (.ref p) (.ref (CD K)) := by
  obtain ⟨dx, r, e, vs, hp, _⟩ := h
  exact .ins hp D.clD D.ixD.ha D.ixD.hn D.ixD.ht D.ixD.hm
section
variable {P : Program} {w : World} {K : PySem.W.Frag} {mg : Str → Option Value} {base : Heap}
theorem scDigitSet__eq__ : FnScope ["self", "other"] ["self", "other"] (defScope iDigitSet__eq__) := ⟨rfl, rfl, rfl, by decide +kernel, rfl, by decide +kernel, by decide +kernel⟩
theorem om_eqS {fd : FuncData} (D : DsTx K mg) (T : Nb mg) (F : FnM K "DigitSet" "__eq__" "DigitSet.__eq__" iDigitSet__eq__ fd) (hm : Meth K (CD K) "__eq__" (He.ma K (CD K) "__eq__")) :
    Om P w K mg base (CD K) 1 "__eq__" (spEqS K) := by
  refine ⟨_, fd, ["self", "other"], ?_, hm.at_, hm.fn, F.bindsN fun _ _ _ _ _ _ us hl => match us, hl with | [_, _], _ => rfl⟩
  refine F.ok scDigitSet__eq__ (fun vs H Q E h => ?_) (fun cdv A outer s H vs Q E hr h => ?_)
  · obtain ⟨p, y, k, M, rfl, _⟩ := h
    rfl
  · obtain ⟨p, y, k, M, rfl, hD, h⟩ := h
    refine ⟨_, PSs.nox (pss_one (ps_ret (pe_and (pe_callB call_isi (by rfl) T.isi (by decide +kernel) (pa_cons (pv 1) (pa_cons (pe_glob (v := .ref (CD K)) rfl D.gD rfl) pa_nil))) (pe_and (pe_cmpR (op_eqD hr.units) (pe_fld (pv 0) rfl) (pe_fld (pv 1) rfl) (nomark _)) (pe_one (pe_cmpR (op_eqD hr.units) (pe_fld (pv 0) rfl) (pe_fld (pv 1) rfl) (nomark _))))))), ?_⟩
    rcases h with ⟨⟨Ty, ty, m⟩, q⟩ | ⟨p2, k2, N, rfl, hN, q⟩
    · refine ⟨_, rfl, _, _, _, _, _, rfl, .own _, .base ty, D.kTD Ty m, _, rfl, iteF q⟩
    · refine ⟨_, rfl, _, _, _, _, _, rfl, .own _, .base (hN.ty D), D.kDD, _, rfl, iteT ?_⟩
      obtain ⟨dx, r, e, vs, hp, hr', hR, he⟩ := hD
      obtain ⟨dx2, r2, e2, vs2, hp2, hr2, hR2, he2⟩ := hN
      refine ⟨_, rfl, p, _, dx, _, _, rfl, hp, D.clD, D.nR, dsf_r, _, rfl, p2, _, dx2, _, _, rfl, hp2, D.clD, D.nR, dsf_r, _, _, .tup (SqT.of hr') (RwZ.dp hR), .tup (SqT.of hr2) (RwZ.dp hR2), shaped_rows _, shaped_rows _, ?_⟩
      rw [eqv_rows]
      refine ⟨_, rfl, ite2 (fun z => ?_) (fun z => ?_)⟩
      · have z : M.rows = N.rows := of_decide_eq_true z
        refine ⟨_, rfl, p, _, dx, _, _, rfl, hp, D.clD, D.nE, dsf_e, _, rfl, p2, _, dx2, _, _, rfl, hp2, D.clD, D.nE, dsf_e, _, _, .tup (SqT.of he) (bls_dp _), .tup (SqT.of he2) (bls_dp _), shaped_ends _, shaped_ends _, ?_⟩
        rw [eqv_ends]
        rw [show decide (M.rows = N.rows ∧ M.ends = N.ends) = decide (M.ends = N.ends) from decide_eq_decide.mpr ⟨fun h => h.2, fun h => ⟨z, h⟩⟩] at q
        exact q
      · have z : ¬ M.rows = N.rows := fun h => z (decide_eq_true h)
        rw [show decide (M.rows = N.rows ∧ M.ends = N.ends) = false from decide_eq_false fun h => z h.1] at q
        exact q
end
end K01
set_option maxHeartbeats 4000000
namespace K01
open PySem PySem.Spec PyProof.Rows L2 Z
/-- the pen, its cells at c -/
def PenC (H : Hp) (p c : Addr) (t : Nat) : Prop := ∃ (ns : List Int) (a l : Int), H p = some (.dK (penK c a l)) ∧ H c = some (.lst (ns.map V.int)) ∧ ns.length ≤ 63 ∧ 0 ≤ a ∧ a ≤ (t : Int) ∧ 0 ≤ l
def spDrawC : Sp := fun vs H Q _ => ∃ (p : Addr) (m : Int) (t : Nat) (c : Addr), vs = [.ref p, .int m] ∧ 0 < m ∧ m < 1073741824 ∧ t < 1000000000 ∧ PenC H p c t ∧ ∀ H' (d : Int), 0 ≤ d → d < m → PenC H' p c (t + 1) → Keep p H H' → Q (.int d) H'
theorem PenC.pen {H : Hp} {p c : Addr} {t : Nat} (h : PenC H p c t) : Pen H p t := by
  obtain ⟨ns, a, l, h⟩ := h
  exact ⟨c, ns, a, l, h⟩
theorem Pen.penC {H : Hp} {p : Addr} {t : Nat} (h : Pen H p t) : ∃ c, PenC H p c t := by
  obtain ⟨c, ns, a, l, h⟩ := h
  exact ⟨c, ns, a, l, h⟩
theorem PenC.has {H : Hp} {p c : Addr} {t : Nat} (h : PenC H p c t) : ∃ o, H c = some o := by
  obtain ⟨ns, a, l, _, h, _⟩ := h
  exact ⟨_, h⟩
theorem Dn.imp {P : Program} {w : World} {K : PySem.W.Frag} {mg : Str → Option Value} {base : Heap} {j : Nat} {x : Str} {ps : List Str} {sp sp' : Sp} (D : Dn P w K mg base j x ps sp) (i : ∀ vs H Q E, sp' vs H Q E → sp vs H Q E) : Dn P w K mg base j x ps sp' := by
  obtain ⟨f, fd, F, r⟩ := D
  exact ⟨f, fd, F.imp i, r⟩
section
variable {P : Program} {w : World} {K : PySem.W.Frag} {mg : Str → Option Value} {base : Heap}
theorem ok_drawC {f : Addr} {fd : FuncData} (F : FnP K "_law_draw" s_law_draw f fd) (T : Bt mg) : FnOk P w K mg base CX0 1 f fd ["_law_pen_here", "_law_many"] spDrawC := by
  refine F.ok sc_law_draw (fun vs H Q E h => ?_) (fun cdv A outer s H vs Q E hr h => ?_)
  · obtain ⟨p, m, t, c, rfl, _⟩ := h
    rfl
  · obtain ⟨p, m, t, c, rfl, hm, hm2, ht, hP, k⟩ := h
    obtain ⟨ns, a, l, h1, h2, h3, h4, h5, h6⟩ := id hP
    have hu := hu_of hr
    have m0 : m ≠ 0 := by omega
    have mb : m.natAbs < 1073741824 := by omega
    have ncp : c ≠ p := ne_of h2 h1 lst_ne_dK
    have z1 : (2147483629 : Int) ≠ 0 := by decide
    have z2 : (2147483647 : Int) ≠ 0 := by decide
    have z3 : (2147483587 : Int) ≠ 0 := by decide
    have z4 : (2147483563 : Int) ≠ 0 := by decide
    refine ⟨_, PSs.nox (pss_cons (ps_if (pt_cmpR op_ge (pe_dget hu (pv 0) pe_str (fun _ _ => rfl)) (pv 1) (nomark _)) (pss_cons (ps_set (i := 2) sc_law_draw.nd rfl (Or.inl rfl) (pe_op op_modN (pe_callTy call_int1 (by rfl) T.int (by decide +kernel) (pa_cons (pe_dget hu (pv 0) pe_str (fun _ _ => rfl)) pa_nil)) (pv 1)))
      (pss_cons (ps_dput hu (pv 0) pe_str (pe_op op_fdivN (pe_dget hu (pv 0) pe_str (fun _ _ => rfl)) (pv 1)) rfl)
      (pss_one (ps_ret (pv 2))))) pss_nil)
      (pss_cons (ps_set (i := 3) sc_law_draw.nd rfl (Or.inl rfl) (pe_dget hu (pv 0) pe_str (fun _ _ => rfl)))
      (pss_cons (ps_dput hu (pv 0) pe_str (pe_op op_add (pv 3) pe_int) rfl)
      (pss_cons (ps_if (pt_cmpR (op_eqD hr.units) (pe_dget hu (pv 0) pe_str (fun _ _ => rfl)) (pe_lst pa_nil) (nomark _)) (pss_one (ps_ret (pe_op op_modN (pe_callTy call_int1 (by rfl) T.int (by decide +kernel) (pa_cons (pe_op op_add (pe_op op_mul pe_int (pv 3)) pe_int) pa_nil)) (pv 1)))) pss_nil)
      (pss_cons (ps_set (i := 4) sc_law_draw.nd rfl (Or.inl rfl) (pe_ix ix_list (pe_dget hu (pv 0) pe_str (fun _ _ => rfl)) (pe_op op_modN (pe_callTy call_int1 (by rfl) T.int (by decide +kernel) (pa_cons (pv 3) pa_nil)) (pe_callB call_len_seq (by rfl) T.len PySem.boot_len (pa_cons (pe_dget hu (pv 0) pe_str (fun _ _ => rfl)) pa_nil))) (fun _ _ => rfl)))
      (pss_cons (ps_if (PW.pt (pw_and (pt_cmpR op_lt (pv 3) (pe_callB call_len_seq (by rfl) T.len PySem.boot_len (pa_cons (pe_dget hu (pv 0) pe_str (fun _ _ => rfl)) pa_nil)) (nomark _)) (pw_and1 (pt_cmpR op_ge (pv 4) (pe_op op_pow pe_int pe_int) (nomark _))))) (pss_cons (ps_dput hu (pv 0) pe_str (pe_op op_fdivN (pe_op op_sub (pv 4) (pe_op op_pow pe_int pe_int)) (pv 1)) rfl)
      (pss_one (ps_ret (pe_op op_modN (pe_callTy call_int1 (by rfl) T.int (by decide +kernel) (pa_cons (pe_op op_sub (pv 4) (pe_op op_pow pe_int pe_int)) pa_nil)) (pv 1))))) pss_nil)
      (pss_cons (ps_set (i := 5) sc_law_draw.nd rfl (Or.inl rfl) (pe_op op_add (pe_op op_add (pe_op op_mul (pe_op op_add (pe_op op_modN (pe_callTy call_int1 (by rfl) T.int (by decide +kernel) (pa_cons (pv 4) pa_nil)) pe_int) pe_int) (pe_op op_add (pe_op op_mul pe_int (pv 3)) pe_int)) (pe_op op_mul (pe_op op_mul pe_int (pv 3)) (pv 3))) pe_int))
      (pss_cons (ps_set (i := 5) sc_law_draw.nd rfl (Or.inl rfl) (pe_op op_modN (pe_callTy call_int1 (by rfl) T.int (by decide +kernel) (pa_cons (pv 5) pa_nil)) pe_int))
      (pss_cons (ps_set (i := 5) sc_law_draw.nd rfl (Or.inl rfl) (pe_op op_modN (pe_callTy call_int1 (by rfl) T.int (by decide +kernel) (pa_cons (pe_op op_mul (pv 5) (pe_op op_add (pv 5) pe_int)) pa_nil)) pe_int))
      (pss_cons (ps_set (i := 5) sc_law_draw.nd rfl (Or.inl rfl) (pe_op op_modN (pe_callTy call_int1 (by rfl) T.int (by decide +kernel) (pa_cons (pe_op op_mul (pv 5) (pv 5)) pa_nil)) pe_int))
      (pss_one (ps_ret (pe_op op_modN (pe_callTy call_int1 (by rfl) T.int (by decide +kernel) (pa_cons (pe_op op_fdivN (pv 5) pe_int) pa_nil)) (pv 1)))))))))))))), ?_⟩
    refine ⟨_, rfl, p, _, rfl, pen_left h1, _, rfl, _, _, rfl, rfl, _, rfl, ?_⟩
    refine ite2 (fun _ => ?_) (fun _ => ?_)
    · refine ⟨_, rfl, p, _, rfl, pen_left h1, .inl ⟨_, rfl, _, rfl, _, _, rfl, rfl, m0, ?_⟩⟩
      refine ⟨_, rfl, p, _, rfl, pen_left h1, _, rfl, _, _, rfl, rfl, ⟨m0, mb⟩, _, rfl, p, _, rfl, pen_put_left _ h1, ?_⟩
      refine ⟨_, rfl, ?_⟩
      exact k _ _ (fmod_range hm).1 (fmod_range hm).2 ⟨ns, a, _, upd_same, by rw [upd_ne ncp]; exact h2, h3, h4, by omega, fdiv_nn h6 hm⟩ (Keep.upd _ (Keep.refl p H))
    · -- spot, at + 1
      refine ⟨_, rfl, p, _, rfl, pen_at h1, ?_⟩
      refine ⟨_, rfl, _, _, rfl, rfl, _, rfl, p, _, rfl, pen_put_at _ h1, ?_⟩
      have g1 : ∀ b, (upd H p (.dK (penK c (a + 1) b))) p = some (.dK (penK c (a + 1) b)) := fun b => upd_same
      have g2 : ∀ o, (upd H p o) c = some (.lst (ns.map V.int)) := fun o => by rw [upd_ne ncp]; exact h2
      have kE : ∀ o, Keep p H (upd H p o) := fun o => Keep.upd _ (Keep.refl p H)
      -- cells == []
      refine ⟨_, rfl, p, _, rfl, pen_cells (g1 _), Nat.zero_le _, fun e he => ?_⟩
      have nep : e ≠ p := fun z => by
        rw [z, upd_same] at he
        cases he
      have nec : e ≠ c := fun z => by
        rw [z, g2] at he
        cases he
      have g1' : ∀ o, (upd (upd H p (.dK (penK c (a + 1) l))) e o) p = some (.dK (penK c (a + 1) l)) := fun o => by rw [upd_ne nep.symm, upd_same]
      have g2' : ∀ o, (upd (upd H p (.dK (penK c (a + 1) l))) e o) c = some (.lst (ns.map V.int)) := fun o => by rw [upd_ne nec.symm]; exact g2 _
      have kE' : ∀ o, Keep p H (upd (upd H p (.dK (penK c (a + 1) l))) e o) := fun o => Keep.new _ (kE _) he
      have pen' : ∀ o, PenC (upd (upd H p (.dK (penK c (a + 1) l))) e o) p c (t + 1) := fun o => ⟨ns, a + 1, l, g1' _, g2' _, h3, by omega, by omega, h6⟩
      refine ⟨.list (ns.map PyData.int), .list [], .lst (SqL.of (g2' _)) (dpAll_ints ns), .lst (SqL.of upd_same) .nil, shaped_ints ns, shaped_nil, _, rfl, ?_⟩
      rw [eqv_ints_nil]
      refine ite2 (fun hc => ?_) (fun hc => ?_)
      · refine ⟨_, rfl, _, _, rfl, rfl, .inl ⟨by decide, by decide⟩, _, _, rfl, rfl, .inl ⟨_, rfl, _, rfl, _, _, rfl, rfl, m0, ?_⟩⟩
        exact k _ _ (fmod_range hm).1 (fmod_range hm).2 (pen' _) (kE' _)
      · have hpos : 0 < ns.length := by
          cases ns with
          | nil => exact absurd rfl hc
          | cons n ns => exact Nat.succ_pos _
        have hposI : (0 : Int) < ((ns.map V.int).length : Int) := by
          rw [List.length_map]
          omega
        have fr := fmod_range (x := a) hposI
        obtain ⟨j, hj⟩ : ∃ j : Nat, a.fmod ((ns.map V.int).length : Int) = (j : Int) := ⟨(a.fmod ((ns.map V.int).length : Int)).toNat, by omega⟩
        have hjl : j < ns.length := by
          have z := fr.2
          rw [hj, List.length_map] at z
          omega
        refine ⟨_, rfl, p, _, rfl, pen_cells (g1' _), _, rfl, .inl ⟨_, rfl, _, rfl, p, _, rfl, pen_cells (g1' _), c, _, rfl, .inl (SqL.of (g2' _)), _, _, rfl, rfl, by omega, ?_⟩⟩
        refine ⟨c, _, (j : Int), _, rfl, congrArg V.int hj, SqL.of (g2' _), atI_nat (get_ints hjl), ?_⟩
        generalize hz : ns[j]'hjl = z
        -- spot < len(cells) and cell >= 10 ** 18
        refine ⟨_, rfl, _, rfl, p, _, rfl, pen_cells (g1' _), c, _, rfl, .inl (SqL.of (g2' _)), _, _, rfl, rfl, _, rfl, ?_⟩
        refine ite2 (fun _ => ?_) (fun _ => iteF ?_)
        · refine ⟨_, rfl, _, _, rfl, rfl, ⟨by decide, by decide, by decide⟩, _, _, rfl, rfl, _, rfl, ?_⟩
          refine ite2 (fun hz18 => ?_) (fun _ => ?_)
          · refine ⟨_, rfl, _, _, rfl, rfl, ⟨by decide, by decide, by decide⟩, _, _, rfl, rfl, _, rfl, _, _, rfl, rfl, ⟨m0, mb⟩, _, rfl, p, _, rfl, pen_put_left _ (g1' _), ?_⟩
            refine ⟨_, rfl, _, _, rfl, rfl, ⟨by decide, by decide, by decide⟩, _, _, rfl, rfl, .inl ⟨_, rfl, _, rfl, _, _, rfl, rfl, m0, ?_⟩⟩
            have hz0 : (0 : Int) ≤ z - 10 ^ (18 : Int).toNat := Int.sub_nonneg_of_le (of_decide_eq_true hz18)
            exact k _ _ (fmod_range hm).1 (fmod_range hm).2 ⟨ns, a + 1, _, upd_same, by rw [upd_ne ncp]; exact g2' _, h3, by omega, by omega, fdiv_nn hz0 hm⟩ (Keep.upd _ (kE' _))
          · refine ⟨_, rfl, .inl ⟨_, rfl, _, _, rfl, rfl, z1, _, _, rfl, rfl, _, rfl, _, _, rfl, rfl, .inl ⟨by decide, by decide⟩, _, _, rfl, rfl, _, _, rfl, rfl, .inl (mul_okf1 (by decide) (by decide)), ?_⟩⟩
            refine ⟨_, rfl, _, _, rfl, rfl, .inl ⟨by decide, by decide⟩, _, rfl, _, _, rfl, rfl, .inr ⟨by omega, by omega⟩, _, _, rfl, rfl, _, _, rfl, rfl, ?_⟩
            refine ⟨_, rfl, .inl ⟨_, rfl, _, _, rfl, rfl, z2, ?_⟩⟩
            refine ⟨_, rfl, _, rfl, _, _, rfl, rfl, _, _, rfl, rfl, .inl (mul_okf (by decide) (by decide)), .inl ⟨_, rfl, _, _, rfl, rfl, z3, ?_⟩⟩
            refine ⟨_, rfl, _, rfl, _, _, rfl, rfl, .inl (mul_okf (by decide) (by decide)), .inl ⟨_, rfl, _, _, rfl, rfl, z4, ?_⟩⟩
            refine ⟨_, rfl, _, _, rfl, rfl, ⟨by decide, by decide⟩, .inl ⟨_, rfl, _, rfl, _, _, rfl, rfl, m0, ?_⟩⟩
            exact k _ _ (fmod_range hm).1 (fmod_range hm).2 (pen' _) (kE' _)
        · refine ⟨_, rfl, .inl ⟨_, rfl, _, _, rfl, rfl, z1, _, _, rfl, rfl, _, rfl, _, _, rfl, rfl, .inl ⟨by decide, by decide⟩, _, _, rfl, rfl, _, _, rfl, rfl, .inl (mul_okf1 (by decide) (by decide)), ?_⟩⟩
          refine ⟨_, rfl, _, _, rfl, rfl, .inl ⟨by decide, by decide⟩, _, rfl, _, _, rfl, rfl, .inr ⟨by omega, by omega⟩, _, _, rfl, rfl, _, _, rfl, rfl, ?_⟩
          refine ⟨_, rfl, .inl ⟨_, rfl, _, _, rfl, rfl, z2, ?_⟩⟩
          refine ⟨_, rfl, _, rfl, _, _, rfl, rfl, _, _, rfl, rfl, .inl (mul_okf (by decide) (by decide)), .inl ⟨_, rfl, _, _, rfl, rfl, z3, ?_⟩⟩
          refine ⟨_, rfl, _, rfl, _, _, rfl, rfl, .inl (mul_okf (by decide) (by decide)), .inl ⟨_, rfl, _, _, rfl, rfl, z4, ?_⟩⟩
          refine ⟨_, rfl, _, _, rfl, rfl, ⟨by decide, by decide⟩, .inl ⟨_, rfl, _, rfl, _, _, rfl, rfl, m0, ?_⟩⟩
          exact k _ _ (fmod_range hm).1 (fmod_range hm).2 (pen' _) (kE' _)
end
def big30 : Int := (10 : Int) ^ (30 : Int).toNat
theorem big30_pos : 0 < big30 := by decide
theorem big30_ne : big30 ≠ 0 := by decide
def spBig : Sp := fun vs H Q _ => ∃ (p pc : Addr) (t : Nat), vs = [.ref p, .int big30] ∧ t < 900000000 ∧ PenC H p pc t ∧ ∀ H' (d : Int), 0 ≤ d → d < big30 → PenC H' p pc (t + 7) → Keep p H H' → Q (.int d) H'
section
variable {P : Program} {w : World} {K : PySem.W.Frag} {mg : Str → Option Value} {base : Heap}
theorem sc_law_big : FnScope ["_law_pen_here", "_law_many", "_law_found", "_law_k"] ["_law_pen_here", "_law_many"] (defScope s_law_big) := ⟨rfl, rfl, rfl, by decide +kernel, rfl, by decide +kernel, by decide +kernel⟩
theorem ok_big {f : Addr} {fd : FuncData} (F : FnP K "_law_big" s_law_big f fd) (T : Nb mg) (dDraw : Dn P w K mg base 1 "_law_draw" ["_law_pen_here", "_law_many"] spDrawC) : FnOk P w K mg base CX0 2 f fd ["_law_pen_here", "_law_many"] spBig := by
  refine F.ok sc_law_big (fun vs H Q E h => ?_) (fun cdv A outer s H vs Q E hr h => ?_)
  · obtain ⟨p, pc, t, rfl, _⟩ := h
    rfl
  · obtain ⟨p, pc, t, rfl, ht, hP, k⟩ := h
    refine ⟨_, PSs.nox (pss_cons (ps_set (i := 2) sc_law_big.nd rfl (Or.inl rfl) pe_int)
      (pss_cons (ps_for PassesOwn.never rfl (pi_range1 (by rfl) T.range (pa_cons (pe_op op_add (pe_op op_fdivN (pe_callB call_len_str (by rfl) T.len PySem.boot_len (pa_cons (pe_callTy call_str_int (by rfl) T.str (by decide +kernel) (pa_cons (pv 1) pa_nil)) pa_nil)) pe_int) pe_int) pa_nil)) (pg_name (i := 3) sc_law_big.nd rfl (.inl rfl)) (pss_one (ps_set (i := 2) sc_law_big.nd rfl (Or.inl rfl) (pe_op op_add (pe_op op_mul (pv 2) (pe_op op_pow pe_int pe_int)) (pe_dn dDraw hr (pa_cons (pv 0) (pa_cons (pe_op op_pow pe_int pe_int) pa_nil)))))))
      (pss_one (ps_ret (pe_op op_modN (pe_callTy call_int1 (by rfl) T.int (by decide +kernel) (pa_cons (pv 2) pa_nil)) (pv 1)))))), ?_⟩
    refine ⟨_, rfl, ?_⟩
    refine ⟨_, rfl, (by decide +kernel), _, rfl, (by decide +kernel), _, _, rfl, rfl, ⟨by decide, by decide⟩, _, _, rfl, rfl, 7, (by decide +kernel), by decide, by decide, ?_⟩
    refine for_range (lo := 0) (n := 7) (fun i σ H' => ∃ (x : Int) (v : Option V), σ = [some (.ref p), some (.int big30), some (.int x), v] ∧ 0 ≤ x ∧ PenC H' p pc (t + i) ∧ Keep p H H') ⟨0, _, rfl, by decide, hP, Keep.refl _ _⟩ ?_ ?_
    · rintro i σ H2 hi ⟨x, v, rfl, hx, hP2, kp⟩
      refine ⟨_, rfl, _, _, rfl, rfl, ⟨by decide, by decide, by decide⟩, _, _, rfl, rfl, .inr ⟨by decide, by decide⟩, ?_⟩
      refine ⟨_, rfl, _, _, rfl, rfl, ⟨by decide, by decide, by decide⟩, p, _, t + i, pc, rfl, by decide, by decide, by omega, hP2, fun H3 d d0 d1 hP3 kp3 => ?_⟩
      have hx2 : 0 ≤ x * 10 ^ (6 : Int).toNat := Int.mul_nonneg hx (by decide)
      exact ⟨_, _, rfl, rfl, _, _, rfl, by omega, hP3, kp.trans kp3⟩
    · rintro σ H2 ⟨x, v, rfl, hx, hP2, kp⟩
      refine ⟨_, rfl, .inl ⟨_, rfl, _, rfl, _, _, rfl, rfl, big30_ne, ?_⟩⟩
      exact k _ _ (fmod_range big30_pos).1 (fmod_range big30_pos).2 hP2 kp
end
end K01
set_option maxHeartbeats 4000000
namespace K01
open PySem PySem.Spec PyProof.Rows L2 Z
theorem span_le : ∀ fs : List Int, (∀ f ∈ fs, -3 ≤ f ∧ f ≤ 3) → ZA.highS fs - ZA.lowS fs ≤ 3 * (fs.length : Int)
  | [], _ => by decide
  | f :: fs, h => by
    have ih := span_le fs fun g hg => h g (List.mem_cons_of_mem _ hg)
    have hf := h f List.mem_cons_self
    show ((if 0 < f then f else 0) + ZA.highS fs) - ((if f < 0 then f else 0) + ZA.lowS fs) ≤ 3 * ((fs.length + 1 : Nat) : Int)
    split <;> split <;> omega
theorem PenC.mono {H : Hp} {p pc : Addr} {t t' : Nat} (h : PenC H p pc t) (e : t ≤ t') : PenC H p pc t' := by
  obtain ⟨ns, a, l, h1, h2, h3, h4, h5, h6⟩ := h
  exact ⟨ns, a, l, h1, h2, h3, h4, by omega, h6⟩
theorem PenC.same {H H' : Hp} {p c : Addr} {t : Nat} (h : PenC H p c t) (s : Same H H') : PenC H' p c t := by
  obtain ⟨ns, a, l, h1, h2, h3⟩ := h
  exact ⟨ns, a, l, s _ _ h1, s _ _ h2, h3⟩
theorem PenC.upd {H : Hp} {p pc D : Addr} {t : Nat} {o : HO} (h : PenC H p pc t) (n1 : D ≠ p) (n2 : D ≠ pc) : PenC (upd H D o) p pc t := by
  obtain ⟨ns, a, l, h1, h2, h3, h4, h5, h6⟩ := h
  exact ⟨ns, a, l, by rw [upd_ne n1.symm]; exact h1, by rw [upd_ne n2.symm]; exact h2, h3, h4, by omega, h6⟩
theorem PenC.free {H : Hp} {p pc D : Addr} {t : Nat} (h : PenC H p pc t) (n : H D = none) : D ≠ p ∧ D ≠ pc := by
  obtain ⟨ns, a, l, h1, h2, _⟩ := h
  exact ⟨fun z => (by rw [z, h1] at n; cases n), fun z => (by rw [z, h2] at n; cases n)⟩
def Cond.OkL (k : Nat) (c : Cond) : Prop := c.Ok k ∧ ∀ f ∈ c.fs, -3 ≤ f ∧ f ≤ 3
def spCondD : Sp := fun vs H Q _ => ∃ (p pc : Addr) (k t : Nat), vs = [.ref p, .int (k : Nat)] ∧ 1 ≤ k ∧ k ≤ 3 ∧ t < 800000000 ∧ PenC H p pc t ∧ ∀ v H' (cd : Cond), PenC H' p pc (t + 20) → Keep p H H' → CondAt H' v cd → cd.OkL k → Q v H'
section
variable {P : Program} {w : World} {K : PySem.W.Frag} {mg : Str → Option Value} {base : Heap}
theorem sc_law_condition : FnScope ["_law_pen_here", "_law_arity", "_law_factors", "_law_place", "_law_way", "_law_m", "_law_turn"] ["_law_pen_here", "_law_arity"] (defScope s_law_condition) := ⟨rfl, rfl, rfl, by decide +kernel, rfl, by decide +kernel, by decide +kernel⟩
theorem ok_condD {f : Addr} {fd : FuncData} (F : FnP K "_law_condition" s_law_condition f fd) (T : Nb mg) (dDraw : Dn P w K mg base 1 "_law_draw" ["_law_pen_here", "_law_many"] spDrawC) : FnOk P w K mg base CX0 2 f fd ["_law_pen_here", "_law_arity"] spCondD := by
  refine F.ok sc_law_condition (fun vs H Q E h => ?_) (fun cdv A outer s H vs Q E hr h => ?_)
  · obtain ⟨p, pc, k, t, rfl, _⟩ := h
    rfl
  · obtain ⟨p, pc, k, t, rfl, k1, k3, ht, hP, q⟩ := h
    refine ⟨_, PSs.nox (pss_cons (ps_set (i := 2) sc_law_condition.nd rfl (Or.inl rfl) (pe_callTy call_tuple_of (by rfl) T.tuple (by decide +kernel) (pa_cons (pe_lc (own := [("_law_place", 3)]) (g := gName 3) (tt := tYes) rfl sc_law_condition.nd (pi_range1 (by rfl) T.range (pa_cons (pv 1) pa_nil)) (blkOk_by (N := ["_law_pen_here", "_law_arity", "_law_factors", "_law_place", "_law_way", "_law_m", "_law_turn"]) (sc := defScope s_law_condition) (by decide +kernel)) (fun _ _ _ _ _ => (pg_name (i := 3) sc_law_condition.nd rfl (.inl rfl))) (fun _ _ _ _ _ => pts_nil) (fun _ _ _ _ _ => (pe_op op_sub (pe_dn dDraw hr (pa_cons (pv 0) (pa_cons pe_int pa_nil))) pe_int))) pa_nil)))
      (pss_cons (ps_set (i := 4) sc_law_condition.nd rfl (Or.inl rfl) (pe_dn dDraw hr (pa_cons (pv 0) (pa_cons pe_int pa_nil))))
      (pss_cons (ps_if (pt_cmpR op_eq (pv 4) pe_int (nomark _)) (pss_one (ps_ret (pe_tup (pa_cons pe_str (pa_cons (pv 2) (pa_cons (pe_op op_sub (pe_dn dDraw hr (pa_cons (pv 0) (pa_cons pe_int pa_nil))) pe_int) pa_nil)))))) pss_nil)
      (pss_cons (ps_if (pt_cmpR op_lt (pv 4) pe_int (nomark _)) (pss_one (ps_ret (pe_tup (pa_cons pe_str (pa_cons (pv 2) (pa_cons (pe_op op_sub (pe_dn dDraw hr (pa_cons (pv 0) (pa_cons pe_int pa_nil))) pe_int) pa_nil)))))) pss_nil)
      (pss_cons (ps_set (i := 5) sc_law_condition.nd rfl (Or.inl rfl) (pe_op op_add pe_int (pe_dn dDraw hr (pa_cons (pv 0) (pa_cons pe_int pa_nil)))))
      (pss_one (ps_ret (pe_tup (pa_cons pe_str (pa_cons (pv 2) (pa_cons (pv 5) (pa_cons (pe_callTy call_tuple_of (by rfl) T.tuple (by decide +kernel) (pa_cons (pe_lc (own := [("_law_turn", 6)]) (g := gName 6) (tt := tYes) rfl sc_law_condition.nd (pi_range1 (by rfl) T.range (pa_cons (pe_op op_add pe_int (pe_dn dDraw hr (pa_cons (pv 0) (pa_cons pe_int pa_nil)))) pa_nil)) (blkOk_by (N := ["_law_pen_here", "_law_arity", "_law_factors", "_law_place", "_law_way", "_law_m", "_law_turn"]) (sc := defScope s_law_condition) (by decide +kernel)) (fun _ _ _ _ _ => (pg_name (i := 6) sc_law_condition.nd rfl (.inl rfl))) (fun _ _ _ _ _ => pts_nil) (fun _ _ _ _ _ => (pe_op op_sub (pe_dn dDraw hr (pa_cons (pv 0) (pa_cons pe_int pa_nil))) pe_int))) pa_nil)) pa_nil)))))))))))), ?_⟩
    refine ⟨_, rfl, (k : Nat), rfl, by omega, by omega, ?_⟩
    rw [Int.toNat_natCast]
    intro D hD
    obtain ⟨n1, n2⟩ := hP.free hD
    have sD := same_new (o := .lst []) (Same.refl H) hD
    refine lc_it (walk_range (lo := 0) (n := k)) (fun i Hc => ∃ ys : List Int, Hc D = some (.lst (ys.map V.int)) ∧ ys.length = i ∧ (∀ y ∈ ys, -3 ≤ y ∧ y ≤ 3) ∧ PenC Hc p pc (t + i) ∧ Keep p H Hc) ⟨[], upd_same, rfl, fun y h => (by cases h), hP.same sD, Keep.of sD⟩ (fun _ _ _ _ => trivial) ?_ ?_
    · rintro i x Hc Hc' hi ⟨ys, eD, ly, by_, pC, kC⟩ ⟨rfl, rfl⟩
      refine ⟨rfl, yes_to ⟨_, rfl, p, 7, t + i, pc, rfl, by decide, by decide, by omega, pC, fun H2 d d0 d1 pC2 k2 => ⟨_, _, rfl, rfl, ?_⟩⟩⟩
      have eD2 := k2 _ _ n1 eD
      refine ⟨_, eD2, szL _ (by rw [List.length_map]; omega), ys ++ [d - 3], ?_, by simp [ly], fun y h => ?_, (pC2.upd n1 n2).mono (by omega), fun b o nb e => ?_⟩
      · rw [upd_same, List.map_append]
        rfl
      · rcases List.mem_append.mp h with h | h
        · exact by_ y h
        · rw [List.mem_singleton.mp h]
          omega
      · rw [upd_ne (ne_of_none e hD)]
        exact k2 _ _ nb (kC _ _ nb e)
    · rintro H1 ⟨ys, eD, ly, by_, pC, kC⟩
      refine ⟨D, _, rfl, .inl ⟨SqL.of eD, fun fa hfa => ?_⟩⟩
      have s2 := same_new (o := .tup (ys.map V.int)) (Same.refl H1) hfa
      obtain ⟨H2, eH2⟩ : ∃ H2, H2 = upd H1 fa (.tup (ys.map V.int)) := ⟨_, rfl⟩
      have hf : H2 fa = some (.tup (ys.map V.int)) := by rw [eH2]; exact upd_same
      rw [← eH2] at s2 ⊢
      have pC2 := pC.same s2
      have kC2 := kC.trans (Keep.of s2)
      have nf : fa ≠ p := (pC.free hfa).1
      have sp := span_le ys by_
      refine normG (σ' := [some (.ref p), some (.int (k : Nat)), some (.ref fa), none, none, none, none]) rfl ?_
      refine ⟨_, rfl, p, 4, t + k, pc, rfl, by decide, by decide, by omega, pC2, fun H3 d d0 d1 pC3 k3' => ?_⟩
      refine normG (σ' := [some (.ref p), some (.int (k : Nat)), some (.ref fa), none, some (.int d), none, none]) rfl ?_
      have hf3 := k3' _ _ nf hf
      have kC3 := kC2.trans k3'
      have ok9 : ZA.highS ys - ZA.lowS ys ≤ 9 := by
        rw [ly] at sp
        omega
      have sz3 : 3 ≤ sizeLine := by show 3 ≤ sizeLine; decide
      have sz4 : 4 ≤ sizeLine := by show 4 ≤ sizeLine; decide
      refine ⟨_, rfl, rfl, _, rfl, ite2 (fun z => ?_) (fun z => ?_)⟩
      · refine ⟨_, rfl, _, rfl, p, 21, _, pc, rfl, by decide, by decide, by omega, pC3, fun H4 e e0 e1 pC4 k4 => ⟨_, _, rfl, rfl, ?_⟩⟩
        refine ⟨sz3, fun u hu => ?_⟩
        have s5 := same_new (o := .tup [.str "is", .ref fa, .int (e - 10)]) (Same.refl H4) hu
        exact q _ _ (.is ys (e - 10)) ((pC4.same s5).mono (by omega)) ((kC3.trans k4).trans (Keep.of s5)) ⟨u, fa, rfl, s5 _ _ (k4 _ _ nf hf3), upd_same⟩ ⟨⟨ly, by omega, by omega, ok9⟩, by_⟩
      · refine un_next ⟨_, rfl, _, _, rfl, rfl, _, rfl, ite2 (fun z => ?_) (fun z => ?_)⟩
        · refine ⟨_, rfl, _, rfl, p, 21, _, pc, rfl, by decide, by decide, by omega, pC3, fun H4 e e0 e1 pC4 k4 => ⟨_, _, rfl, rfl, ?_⟩⟩
          refine ⟨sz3, fun u hu => ?_⟩
          have s5 := same_new (o := .tup [.str "least", .ref fa, .int (e - 10)]) (Same.refl H4) hu
          exact q _ _ (.least ys (e - 10)) ((pC4.same s5).mono (by omega)) ((kC3.trans k4).trans (Keep.of s5)) ⟨u, fa, rfl, s5 _ _ (k4 _ _ nf hf3), upd_same⟩ ⟨⟨ly, by omega, by omega, ok9⟩, by_⟩
        · refine un_next ⟨_, rfl, p, 6, _, pc, rfl, by decide, by decide, by omega, pC3, fun H4 e e0 e1 pC4 k4 => ⟨_, _, rfl, rfl, ?_⟩⟩
          obtain ⟨m, hm⟩ : ∃ m : Nat, (m : Int) = 1 + e := ⟨(1 + e).toNat, by omega⟩
          refine normG (σ' := [some (.ref p), some (.int (k : Nat)), some (.ref fa), none, some (.int d), some (.int (m : Nat)), none]) (by rw [hm]; rfl) ?_
          have hf4 := k4 _ _ nf hf3
          have kC4 := kC3.trans k4
          refine ⟨_, rfl, _, rfl, _, rfl, p, 2, _, pc, rfl, by decide, by decide, by omega, pC4, fun H5 g g0 g1 pC5 k5 => ⟨_, _, rfl, rfl, ?_⟩⟩
          obtain ⟨n, hn⟩ : ∃ n : Nat, (n : Int) = 1 + g := ⟨(1 + g).toNat, by omega⟩
          refine ⟨(n : Int), congrArg (fun z => [V.int z]) hn.symm, by omega, by omega, ?_⟩
          rw [Int.toNat_natCast]
          have hf5 := k5 _ _ nf hf4
          have kC5 := kC4.trans k5
          intro D2 hD2
          obtain ⟨m1, m2⟩ := pC5.free hD2
          have sD2 := same_new (o := .lst []) (Same.refl H5) hD2
          refine lc_it (walk_range (lo := 0) (n := n)) (fun i Hc => ∃ rs : List Int, Hc D2 = some (.lst (rs.map V.int)) ∧ rs.length = i ∧ PenC Hc p pc (t + k + 3 + i) ∧ Keep p H5 Hc) ⟨[], upd_same, rfl, (pC5.same sD2).mono (by omega), Keep.of sD2⟩ (fun _ _ _ _ => trivial) ?_ ?_
          · rintro i x Hc Hc' hi ⟨rs, eD2, lr, pCc, kCc⟩ ⟨rfl, rfl⟩
            refine ⟨rfl, yes_to ⟨_, rfl, p, 8, _, pc, rfl, by decide, by decide, by omega, pCc, fun H6 y d0 d1 pC6 k6 => ⟨_, _, rfl, rfl, ?_⟩⟩⟩
            refine ⟨_, k6 _ _ m1 eD2, szL _ (by rw [List.length_map]; omega), rs ++ [y - 1], ?_, by simp [lr], (pC6.upd m1 m2).mono (by omega), fun b o nb e => ?_⟩
            · rw [upd_same, List.map_append]
              rfl
            · rw [upd_ne (ne_of_none e hD2)]
              exact k6 _ _ nb (kCc _ _ nb e)
          · rintro H6 ⟨rs, eD2, lr, pC6, k6⟩
            refine ⟨D2, _, rfl, .inl ⟨SqL.of eD2, fun ra hra => ⟨sz4, fun u hu => ?_⟩⟩⟩
            have s7 := same_new (o := .tup (rs.map V.int)) (Same.refl H6) hra
            have s8 := same_new (o := .tup [.str "rest", .ref fa, .int (m : Nat), .ref ra]) (Same.refl (upd H6 ra (.tup (rs.map V.int)))) hu
            exact q _ _ (.rest ys m rs) ((pC6.same (s7.trans s8)).mono (by omega)) ((kC5.trans k6).trans (Keep.of (s7.trans s8))) ⟨u, fa, rfl, (s7.trans s8) _ _ (k6 _ _ nf hf5), ra, upd_same, s8 _ _ upd_same⟩ ⟨⟨ly, by omega, by omega⟩, by_⟩
end
end K01
set_option maxHeartbeats 4000000
namespace K01
open PySem PySem.Spec PyProof.Rows L2 Z
def CsOk (k : Nat) (css : List (List Cond)) : Prop := FitC css ∧ FitC (css ++ css.take 1) ∧ ∀ cds ∈ css, ∀ c ∈ cds, c.OkL k
def spCasesD : Sp := fun vs H Q _ => ∃ (p : Addr) (k t : Nat), vs = [.ref p, .int (k : Nat)] ∧ 1 ≤ k ∧ k ≤ 3 ∧ t < 700000000 ∧ Pen H p t ∧ ∀ v H' (css : List (List Cond)), Pen H' p (t + 50) → Keep p H H' → CasesAt H' v css → CsOk k css → Q v H'
theorem CondAt.keep {H H' : Hp} {p : Addr} {v : V} {c : Cond} {kvs : List (Key × V)} (h : CondAt H v c) (kp : Keep p H H') (hp : H p = some (.dK kvs)) : CondAt H' v c := by
  have up : ∀ a xs, H a = some (.tup xs) → H' a = some (.tup xs) := fun a xs e => kp _ _ (fun z => by rw [z, hp] at e; cases e) e
  obtain ⟨t, fa, e, hf, h⟩ := h
  refine ⟨t, fa, e, up _ _ hf, ?_⟩
  match c, h with
  | .is _ _, h => exact up _ _ h
  | .least _ _, h => exact up _ _ h
  | .rest _ _ _, ⟨ra, h1, h2⟩ => exact ⟨ra, up _ _ h1, up _ _ h2⟩
theorem CondsAt.keep {H H' : Hp} {p : Addr} {v : V} {c : List Cond} {kvs : List (Key × V)} (h : CondsAt H v c) (kp : Keep p H H') (hp : H p = some (.dK kvs)) : CondsAt H' v c := let ⟨a, vs, e, h1, h2⟩ := h; ⟨a, vs, e, kp _ _ (fun z => by rw [z, hp] at h1; cases h1) h1, h2.imp fun _ _ q => q.keep kp hp⟩
theorem CasesAt.keep {H H' : Hp} {p : Addr} {v : V} {c : List (List Cond)} {kvs : List (Key × V)} (h : CasesAt H v c) (kp : Keep p H H') (hp : H p = some (.dK kvs)) : CasesAt H' v c := let ⟨a, vs, e, h1, h2⟩ := h; ⟨a, vs, e, kp _ _ (fun z => by rw [z, hp] at h1; cases h1) h1, h2.imp fun _ _ q => q.keep kp hp⟩
theorem zs1 {α : Type} {R : α → V → Prop} {v : V} {x : α} (h : R x v) : Zs R [v] [x] := Zs.snoc Zs.nil h
theorem zs2 {α : Type} {R : α → V → Prop} {v w : V} {x y : α} (h : R x v) (k : R y w) : Zs R [v, w] [x, y] := Zs.snoc (zs1 h) k
section
variable {P : Program} {w : World} {K : PySem.W.Frag} {mg : Str → Option Value} {base : Heap}
theorem sc_law_cases : FnScope ["_law_pen_here", "_law_arity", "_law_first", "_law_second"] ["_law_pen_here", "_law_arity"] (defScope s_law_cases) := ⟨rfl, rfl, rfl, by decide +kernel, rfl, by decide +kernel, by decide +kernel⟩
theorem ok_casesD {f : Addr} {fd : FuncData} (F : FnP K "_law_cases" s_law_cases f fd) (T : Nb mg) (dPick : Dn P w K mg base 2 "_law_pick" ["_law_pen_here", "_law_some"] spPick) (dCondition : Dn P w K mg base 2 "_law_condition" ["_law_pen_here", "_law_arity"] spCondD) : FnOk P w K mg base CX0 3 f fd ["_law_pen_here", "_law_arity"] spCasesD := by
  refine F.ok sc_law_cases (fun vs H Q E h => ?_) (fun cdv A outer s H vs Q E hr h => ?_)
  · obtain ⟨p, k, t, rfl, _⟩ := h
    rfl
  · obtain ⟨p, k, t, rfl, k1, k3, ht, hP, q⟩ := h
    refine ⟨_, PSs.nox (pss_cons (ps_par (i := 2) (j := 3) (by rfl) sc_law_cases.nd rfl rfl (by decide) rfl rfl (pa_cons (pe_dn dCondition hr (pa_cons (pv 0) (pa_cons (pv 1) pa_nil))) (pa_cons (pe_dn dCondition hr (pa_cons (pv 0) (pa_cons (pv 1) pa_nil))) pa_nil)) (by rfl))
      (pss_one (ps_ret (pe_dn dPick hr (pa_cons (pv 0) (pa_cons (pe_lst (pa_cons (pe_tup (pa_cons (pe_tup (pa_cons (pv 2) pa_nil)) pa_nil)) (pa_cons (pe_tup (pa_cons (pe_tup (pa_cons (pv 2) (pa_cons (pv 3) pa_nil))) pa_nil)) (pa_cons (pe_tup (pa_cons (pe_tup (pa_cons (pv 2) pa_nil)) (pa_cons (pe_tup (pa_cons (pv 3) pa_nil)) pa_nil))) pa_nil)))) pa_nil)))))), ?_⟩
    have sz3 : 3 ≤ sizeLine := by show 3 ≤ sizeLine; decide
    obtain ⟨pc, hP⟩ := Pen.penC hP
    have hp : ∃ kvs, H p = some (.dK kvs) := by
      obtain ⟨_, _, _, h, _⟩ := hP
      exact ⟨_, h⟩
    refine ⟨_, rfl, _, rfl, p, pc, k, t, rfl, k1, k3, by omega, hP, fun v1 H1 c1 pC1 kp1 at1 ok1 => ?_⟩
    have hp1 : ∃ kvs, H1 p = some (.dK kvs) := by
      obtain ⟨_, _, _, h, _⟩ := pC1
      exact ⟨_, h⟩
    refine ⟨_, rfl, _, rfl, p, pc, k, t + 20, rfl, k1, k3, by omega, pC1, fun v2 H2 c2 pC2 kp2 at2 ok2 => ?_⟩
    have hp2 : ∃ kvs, H2 p = some (.dK kvs) := by
      obtain ⟨_, _, _, h, _⟩ := pC2
      exact ⟨_, h⟩
    obtain ⟨kvs1, hp1⟩ := hp1
    obtain ⟨kvs2, hp2⟩ := hp2
    have at1' := at1.keep kp2 hp1
    have kp := kp1.trans kp2
    refine ⟨_, _, rfl, ?_⟩
    refine norm (N := fun σ _ => _) (σ' := [some (.ref p), some (.int (k : Nat)), some v1, some v2]) rfl ?_
    refine ⟨_, rfl, _, rfl, sz1, fun a1 g1 => ⟨sz1, fun b1 g2 => ⟨_, rfl, _, rfl, sz2, fun a2 g3 => ⟨sz1, fun b2 g4 => ⟨_, rfl, sz1, fun a3 g5 => ⟨_, rfl, sz1, fun a4 g6 => ⟨sz2, fun b3 g7 => ⟨sz3, fun l g8 => ?_⟩⟩⟩⟩⟩⟩⟩⟩
    have s1 := same_new (o := .tup [v1]) (Same.refl H2) g1
    have s2 := same_new (o := .tup [.ref a1]) (Same.refl _) g2
    have s3 := same_new (o := .tup [v1, v2]) (Same.refl _) g3
    have s4 := same_new (o := .tup [.ref a2]) (Same.refl _) g4
    have s5 := same_new (o := .tup [v1]) (Same.refl _) g5
    have s6 := same_new (o := .tup [v2]) (Same.refl _) g6
    have s7 := same_new (o := .tup [.ref a3, .ref a4]) (Same.refl _) g7
    have s8 := same_new (o := .lst [.ref b1, .ref b2, .ref b3]) (Same.refl _) g8
    have r7 := s7.trans s8
    have r6 := s6.trans r7
    have r5 := s5.trans r6
    have r4 := s4.trans r5
    have r3 := s3.trans r4
    have r2 := s2.trans r3
    have r1 := s1.trans r2
    refine ⟨p, l, _, t + 40, rfl, upd_same, by simp, by simp, by omega, (pC2.pen).same r1, fun H' i v hi pen' kp' => ?_⟩
    have e1 := r2 _ _ (upd_same (H := H2) (a := a1) (o := .tup [v1]))
    have hpL := r1 _ _ hp2
    have cA := CondAt.same at1' r1
    have cB := CondAt.same at2 r1
    have kk := (kp.trans (Keep.of r1)).trans kp'
    have CS1 := r3 _ _ upd_same
    have CS3 := r5 _ _ upd_same
    have CS2 := r4 _ _ upd_same
    have CS5 := r6 _ _ upd_same
    have CS6 := r7 _ _ upd_same
    have CS7 := s8 _ _ upd_same
    match i, hi with
    | 0, hi =>
      cases hi
      exact q _ _ [[c1]] (pen'.mono (by omega)) kk (CasesAt.keep ⟨b1, _, rfl, CS1, zs1 ⟨a1, _, rfl, e1, zs1 cA⟩⟩ kp' hpL) ⟨.inr (.inl ⟨[c1], rfl, by simp⟩), .inr (.inr (.inl ⟨c1, c1, rfl⟩)), by simpa using ok1⟩
    | 1, hi =>
      cases hi
      exact q _ _ [[c1, c2]] (pen'.mono (by omega)) kk (CasesAt.keep ⟨b2, _, rfl, CS3, zs1 ⟨a2, _, rfl, CS2, zs2 cA cB⟩⟩ kp' hpL) ⟨.inr (.inl ⟨[c1, c2], rfl, by simp⟩), .inr (.inr (.inr (.inl ⟨[c1, c2], rfl, by simp⟩))), by simpa using ⟨ok1, ok2⟩⟩
    | 2, hi =>
      cases hi
      exact q _ _ [[c1], [c2]] (pen'.mono (by omega)) kk (CasesAt.keep ⟨b3, _, rfl, CS7, zs2 ⟨a3, _, rfl, CS5, zs1 cA⟩ ⟨a4, _, rfl, CS6, zs1 cB⟩⟩ kp' hpL) ⟨.inr (.inr (.inl ⟨c1, c2, rfl⟩)), .inr (.inr (.inr (.inr ⟨c1, c2, rfl⟩))), by simpa using ⟨ok1, ok2⟩⟩
    | i + 3, hi => exact absurd (List.getElem?_eq_some_iff.mp hi).1 (by simp)
end
end K01
set_option maxHeartbeats 4000000
namespace K01
open PySem PySem.Spec PyProof.Rows L2 Z
def spPickC : Sp := fun vs H Q _ => ∃ (p l pc : Addr) (xs : List V) (t : Nat), vs = [.ref p, .ref l] ∧ H l = some (.lst xs) ∧ 0 < xs.length ∧ xs.length < 1000 ∧ t < 1000000000 ∧ PenC H p pc t ∧ ∀ H' (i : Nat) v, xs[i]? = some v → PenC H' p pc (t + 1) → Keep p H H' → Q v H'
section
variable {P : Program} {w : World} {K : PySem.W.Frag} {mg : Str → Option Value} {base : Heap}
theorem ok_pickC {f : Addr} {fd : FuncData} (F : FnP K "_law_pick" s_law_pick f fd) (T : Bt mg) (dDraw : Dn P w K mg base 1 "_law_draw" ["_law_pen_here", "_law_many"] spDrawC) : FnOk P w K mg base CX0 2 f fd ["_law_pen_here", "_law_some"] spPickC := by
  refine F.ok sc_law_pick (fun vs H Q E h => ?_) (fun cdv A outer s H vs Q E hr h => ?_)
  · obtain ⟨p, l, pc, xs, t, rfl, _⟩ := h
    rfl
  · obtain ⟨p, l, pc, xs, t, rfl, hl, h0, h1, ht, hP, k⟩ := h
    refine ⟨_, PSs.nox (pss_one (ps_ret (pe_ix ix_list (pv 1) (pe_dn dDraw hr (pa_cons (pv 0) (pa_cons (pe_callB call_len_seq (by rfl) T.len PySem.boot_len (pa_cons (pv 1) pa_nil)) pa_nil))) (fun _ _ => rfl)))), ?_⟩
    refine ⟨_, rfl, _, rfl, _, rfl, l, _, rfl, .inl (SqL.of hl), ?_⟩
    refine ⟨p, _, t, pc, rfl, by omega, by omega, by omega, hP, fun H' d d0 d1 hP' kp => ?_⟩
    obtain ⟨j, rfl⟩ : ∃ j : Nat, d = (j : Int) := ⟨d.toNat, by omega⟩
    have hj : j < xs.length := by omega
    have hl' : H' l = some (.lst xs) := kp _ _ (hP.pen.ne hl fun _ z => lst_ne_dK z) hl
    refine ⟨l, _, _, _, rfl, rfl, SqL.of hl', atI_nat (List.getElem?_eq_getElem hj), ?_⟩
    exact k _ _ _ (List.getElem?_eq_getElem hj) hP' kp
theorem pick_of (D : Dn P w K mg base 2 "_law_pick" ["_law_pen_here", "_law_some"] spPickC) : Dn P w K mg base 2 "_law_pick" ["_law_pen_here", "_law_some"] spPick := Dn.imp D fun vs H Q E h => by
  obtain ⟨p, l, xs, t, rfl, h1, h2, h3, h4, hP, k⟩ := h
  obtain ⟨c, hC⟩ := Pen.penC hP
  exact ⟨p, l, c, xs, t, rfl, h1, h2, h3, h4, hC, fun H' i v hi hP' kp => k H' i v hi hP'.pen kp⟩
end
def spNumD : Sp := fun vs H Q _ => ∃ (p pc : Addr) (t : Nat), vs = [.ref p] ∧ t < 800000000 ∧ PenC H p pc t ∧ ∀ H' (n : Nat), n < 2 ^ 200 → PenC H' p pc (t + 11) → Keep p H H' → Q (.int (n : Nat)) H'
section
variable {P : Program} {w : World} {K : PySem.W.Frag} {mg : Str → Option Value} {base : Heap}
theorem sc_law_number : FnScope ["_law_pen_here"] ["_law_pen_here"] (defScope s_law_number) := ⟨rfl, rfl, rfl, by decide +kernel, rfl, by decide +kernel, by decide +kernel⟩
theorem ok_numD {f : Addr} {fd : FuncData} (F : FnP K "_law_number" s_law_number f fd) (T : Nb mg) (dDraw : Dn P w K mg base 1 "_law_draw" ["_law_pen_here", "_law_many"] spDrawC) (dPick : Dn P w K mg base 2 "_law_pick" ["_law_pen_here", "_law_some"] spPickC) (dBig : Dn P w K mg base 2 "_law_big" ["_law_pen_here", "_law_many"] spBig) : FnOk P w K mg base CX0 3 f fd ["_law_pen_here"] spNumD := by
  refine F.ok sc_law_number (fun vs H Q E h => ?_) (fun cdv A outer s H vs Q E hr h => ?_)
  · obtain ⟨p, pc, t, rfl, _⟩ := h
    rfl
  · obtain ⟨p, pc, t, rfl, ht, hP, q⟩ := h
    refine ⟨_, PSs.nox (pss_one (ps_ret (pe_dn dPick hr (pa_cons (pv 0) (pa_cons (pe_lst (pa_cons (pe_dn dDraw hr (pa_cons (pv 0) (pa_cons pe_int pa_nil))) (pa_cons (pe_dn dDraw hr (pa_cons (pv 0) (pa_cons pe_int pa_nil))) (pa_cons (pe_dn dDraw hr (pa_cons (pv 0) (pa_cons pe_int pa_nil))) (pa_cons (pe_dn dBig hr (pa_cons (pv 0) (pa_cons (pe_op op_pow pe_int pe_int) pa_nil))) pa_nil))))) pa_nil))))), ?_⟩
    have sz4 : 4 ≤ sizeLine := by show 4 ≤ sizeLine; decide
    refine ⟨_, rfl, _, rfl, p, 6, t, pc, rfl, by decide, by decide, by omega, hP, fun H1 d1 a1 b1 P1 k1 => ?_⟩
    refine ⟨_, rfl, p, 16, t + 1, pc, rfl, by decide, by decide, by omega, P1, fun H2 d2 a2 b2 P2 k2 => ?_⟩
    refine ⟨_, rfl, p, 600, t + 2, pc, rfl, by decide, by decide, by omega, P2, fun H3 d3 a3 b3 P3 k3 => ?_⟩
    refine ⟨_, rfl, _, _, rfl, rfl, ⟨by decide, by decide, by decide⟩, p, pc, t + 3, rfl, by omega, P3, fun H4 d4 a4 b4 P4 k4 => ⟨sz4, fun l hl => ?_⟩⟩
    have s5 := same_new (o := .lst [.int d1, .int d2, .int d3, .int d4]) (Same.refl H4) hl
    have kk := ((k1.trans k2).trans (k3.trans k4)).trans (Keep.of s5)
    refine ⟨p, l, pc, _, t + 10, rfl, upd_same, by simp, by simp, by omega, (P4.same s5).mono (by omega), fun H' i v hi pen' kp' => ?_⟩
    have big : big30 < 2 ^ 200 := by decide +kernel
    have fin : ∀ d : Int, 0 ≤ d → d < 2 ^ 200 → Q (.int d) H' := fun d h0 h1 => by
      obtain ⟨n, rfl⟩ : ∃ n : Nat, d = (n : Int) := ⟨d.toNat, by omega⟩
      exact q H' n (by exact_mod_cast h1) (pen'.mono (by omega)) (kk.trans kp')
    match i, hi with
    | 0, hi => cases hi; exact fin _ a1 (Int.lt_trans b1 (by decide))
    | 1, hi => cases hi; exact fin _ a2 (Int.lt_trans b2 (by decide))
    | 2, hi => cases hi; exact fin _ a3 (Int.lt_trans b3 (by decide))
    | 3, hi => cases hi; exact fin _ a4 (Int.lt_trans b4 big)
    | i + 4, hi => exact absurd (List.getElem?_eq_some_iff.mp hi).1 (by simp)
end
end K01
set_option maxHeartbeats 4000000
namespace L2
open PySem PySem.Spec PyProof.Rows
theorem tuple_mul1 (l : Addr) (items : Array Value) (n : Nat) (sl : Array (Option Value)) (dd : Option Addr) (u : Tok) :
    Meets (Builtin.«tuple.__mul__» ⟨[.ref l, .int 1 u], []⟩) (fun _ R s => s.heap.get? l = some { cls := .type "tuple", dict := dd, data := .seq items n, slots := sl } ∧ R (.ok (.ret (Value.ref l))) s) :=
  .of_wp fun prog w A R s h => by
    obtain ⟨hp, g, d, tk, os⟩ := s
    obtain ⟨hl, h⟩ := h
    have f1 := AutoSeq1.idx_int
    wp_walk using wpAny_loadPart' hl
    repeat (first
      | (refine wpAny_ite_false (by decide) ?_; wp_walk using wpAny_loadPart' hl)
      | (refine wpAny_ite_true (by simp) ?_; wp_walk using wpAny_loadPart' hl))
    exact ⟨_, rfl, h⟩
def rRepA (K : PySem.W.Frag) : R2 := fun x y H Q => ∃ l k xs, x = .ref l ∧ y = .int k ∧ SqT K H l xs ∧ xs ≠ [] ∧ 1 ≤ k ∧ k ≤ 1000 ∧ xs.length ≤ 1000 ∧ (k = 1 → Q (.ref l) H) ∧ (2 ≤ k → ∀ p, H p = none → Q (.ref p) (upd H p (.tup (List.replicate k.toNat xs).flatten)))
section
variable {X : Cx}
theorem op_repA : OpR X (binaryOp .Mult) (rRepA X.K) := by
  intro pins s σ H x y v u Q I rx ry h
  obtain ⟨l, k, xs, rfl, rfl, hT, hne, h1, h2, hz, q1, q2⟩ := h
  by_cases hk : k = 1
  · subst hk
    cases rx
    obtain ⟨t, rfl⟩ := ry
    obtain ⟨its, r, ⟨⟨cls, dd, data, sl⟩, ho, hc, n, hd⟩, hs⟩ := I.tuple hT
    simp only at hc hd
    subst hc hd
    refine wpAny_binaryOp_repeat_ref (T := "tuple") (U := "int") (by decide) ⟨_, ho, rfl⟩ (fun s' => typeIs_int s' 1 t) noFill_tuple_mul F.fills_int_mul F.slot_int_rmul repeat_tuple F.slot_int_index.lookup
      (call_meets F.slot_int_rmul (typeIs_int s 1 t) F.entry_int_rmul (F.args_int_rmul_2 _ _) (int_rmul_tuple 1 t l its.toArray n dd sl)
        ⟨ho, rfl, ⟨_, ho, rfl⟩, call_meets F.slot_tuple_mul ⟨_, ho, rfl⟩ F.entry_tuple_mul (F.args_tuple_mul_2 _ _) (tuple_mul1 l its.toArray n sl dd t) ⟨ho, ?_⟩⟩)
    exact ⟨.ref l, H, I, rfl, q1 rfl⟩
  · exact op_repT pins s σ H _ _ v u Q I rx ry ⟨l, k, xs, rfl, rfl, hT, hne, by omega, h2, hz, q2 (by omega)⟩
theorem op_repAK {K : PySem.W.Frag} (h : X.K = K) : OpR X (binaryOp .Mult) (rRepA K) := h ▸ op_repA
theorem op_catAK {K : PySem.W.Frag} (h : X.K = K) : OpR X (binaryOp .Add) (rCatA K) := h ▸ op_catA
theorem sl_tupAK {K : PySem.W.Frag} (h : X.K = K) : SlR X (rSlA K) := h ▸ sl_tupA
end
theorem walk_zipT {K : PySem.W.Frag} {a b : Addr} {xs ys : List V} {n : Nat} (hn : n = min xs.length ys.length) : Walk (RZ.ItzT K a b) n (fun H => SqT K H a xs ∧ SqT K H b ys) (YPair (fun i => xs[i]?) (fun i => ys[i]?)) := by
  subst hn
  refine ⟨fun i _ hi q => ?_, fun _ q => ⟨xs, ys, q.1, q.2, by omega⟩, fun i H v H' _ q y => ?_⟩
  · have h1 : i < xs.length := by omega
    have h2 : i < ys.length := by omega
    exact ⟨xs, ys, xs[i], ys[i], q.1, q.2, by simp [h1], by simp [h2]⟩
  · obtain ⟨T, x, z, h1, h2, h3, h4, h5⟩ := y
    exact ⟨T, x, z, h1, h2, h3, h4 xs q.1, h5 ys q.2⟩
theorem pi_zipTK {X : Cx} {K : PySem.W.Frag} {e e2 : Expr} {ta : TA} {p pos tpos : Pos} {elts : List Expr} {kk : Nat} (hK : X.K = K) (hg : Gl X "zip") (hm : X.mg "zip" = none) (ha : PA X [e, e2] ta)
    (hs : starEach [e, e2] X.env = (false, eval e X.env) :: starEach [e2] X.env := by rfl) (hpl : (backTo pos (starEach [e2] X.env)).any (·.1) = false := by rfl) :
    PI X (.Tuple elts kk tpos) (.Call (.Name "zip" p) [e, e2] [] pos) (RZ.iZipA K ta) := hK ▸ RZ.pi_zipA hg hm ha hs hpl
end L2
set_option maxHeartbeats 4000000
namespace K01
open PySem PySem.Spec PyProof.Rows L2 Z
theorem dot_sum : ∀ (fs : List Int) (ns : List Nat), fs.length = ns.length → ((List.range fs.length).map fun i => fs.getD i 0 * ((ns.getD i 0 : Nat) : Int)).sum = ZA.dot fs ns
  | [], [], _ => rfl
  | f :: fs, n :: ns, h => by
    have ih := dot_sum fs ns (by simpa using h)
    rw [List.length_cons, List.range_succ_eq_map, List.map_cons, List.sum_cons, List.map_map]
    show f * (n : Int) + _ = f * (n : Int) + ZA.dot fs ns
    rw [← ih]
    rfl
def spHolds (K : PySem.W.Frag) : Sp := fun vs H Q _ => ∃ (v : V) (r : Addr) (cd : Cond) (k : Nat) (ns : List Nat), vs = [v, .ref r] ∧ CondAt H v cd ∧ cd.OkL k ∧ k ≤ 4 ∧ H r = some (.tup (ns.map nV)) ∧ ns.length = k ∧ ∀ H', Same H H' → Q (.bl (cd.says (ZA.dot cd.fs ns))) H'
section
variable {P : Program} {w : World} {K : PySem.W.Frag} {mg : Str → Option Value} {base : Heap}
theorem sc_law_holds : FnScope ["_law_condition_here", "_law_row_here", "_law_total", "_law_factor", "_law_number_here"] ["_law_condition_here", "_law_row_here"] (defScope s_law_holds) := ⟨rfl, rfl, rfl, by decide +kernel, rfl, by decide +kernel, by decide +kernel⟩
theorem ok_holds {f : Addr} {fd : FuncData} (F : FnP K "_law_holds" s_law_holds f fd) (T : Nb mg) : FnOk P w K mg base CX0 1 f fd ["_law_condition_here", "_law_row_here"] (spHolds K) := by
  refine F.ok sc_law_holds (fun vs H Q E h => ?_) (fun cdv A outer s H vs Q E hr h => ?_)
  · obtain ⟨v, r, cd, k, ns, rfl, _⟩ := h
    rfl
  · obtain ⟨v, r, cd, k, ns, rfl, ⟨t, fa, rfl, hf, ht⟩, ⟨ok, fb⟩, k4, hr', ln, q⟩ := h
    refine ⟨_, PSs.nox (pss_cons (ps_set (i := 2) sc_law_holds.nd rfl (Or.inl rfl) (pe_callB (cr_sum rfl) (by rfl) T.sum (by decide +kernel) (pa_cons (pe_lc (own := [("_law_factor", 3), ("_law_number_here", 4)]) (tt := tYes) rfl sc_law_holds.nd (pi_zipTK (K := K) rfl (by rfl) T.zip (pa_cons (pe_ix (ix_anyK (K := K) rfl) (pv 0) pe_int (fun _ _ => rfl)) (pa_cons (pv 1) pa_nil))) (blkOk_by (N := ["_law_condition_here", "_law_row_here", "_law_total", "_law_factor", "_law_number_here"]) (sc := defScope s_law_holds) (by decide +kernel)) (fun _ _ _ _ _ => (pg_tupK (K := K) (n := 2) rfl rfl (pgs_cons (pg_name (i := 3) sc_law_holds.nd rfl (.inl rfl)) (pgs_cons (pg_name (i := 4) sc_law_holds.nd rfl (.inl rfl)) pgs_nil)))) (fun _ _ _ _ _ => pts_nil) (fun _ _ _ _ _ => (pe_op op_mul (pv 3) (pv 4)))) pa_nil)))
      (pss_cons (ps_if (pt_cmpR op_eq (pe_ix (ix_anyK (K := K) rfl) (pv 0) pe_int (fun _ _ => rfl)) pe_str (nomark _)) (pss_one (ps_ret (pe_cmpR op_eq (pv 2) (pe_ix (ix_anyK (K := K) rfl) (pv 0) pe_int (fun _ _ => rfl)) (nomark _)))) pss_nil)
      (pss_cons (ps_if (pt_cmpR op_eq (pe_ix (ix_anyK (K := K) rfl) (pv 0) pe_int (fun _ _ => rfl)) pe_str (nomark _)) (pss_one (ps_ret (pe_cmpR op_ge (pv 2) (pe_ix (ix_anyK (K := K) rfl) (pv 0) pe_int (fun _ _ => rfl)) (nomark _)))) pss_nil)
      (pss_one (ps_ret (pe_cmpR (op_inK (K := K) rfl) (pe_op op_modN (pe_callTy call_int1 (by rfl) T.int (by decide +kernel) (pa_cons (pv 2) pa_nil)) (pe_ix (ix_anyK (K := K) rfl) (pv 0) pe_int (fun _ _ => rfl))) (pe_ix (ix_anyK (K := K) rfl) (pv 0) pe_int (fun _ _ => rfl)) (by with_unfolding_all rfl))))))), ?_⟩
    have lf : cd.fs.length = k := by
      match cd, ok with
      | .is _ _, ok => exact ok.1
      | .least _ _, ok => exact ok.1
      | .rest _ _ _, ok => exact ok.1
    obtain ⟨xs, htx, x1⟩ : ∃ xs, H t = some (.tup xs) ∧ xs[1]? = some (.ref fa) := by
      match cd, ht with
      | .is _ _, ht => exact ⟨_, ht, rfl⟩
      | .least _ _, ht => exact ⟨_, ht, rfl⟩
      | .rest _ _ _, ⟨ra, ht, _⟩ => exact ⟨_, ht, rfl⟩
    refine ⟨_, rfl, t, _, _, _, rfl, rfl, .inr (SqT.of htx), atI_nat (j := 1) x1, _, rfl, fa, r, _, _, rfl, .inr ⟨SqT.of hf, SqT.of hr', fun D hD => ?_⟩⟩
    refine lc_it (walk_zipT (K := K) (a := fa) (b := r) (n := k) (by rw [List.length_map, List.length_map, lf, ln]; simp)) (fun i Hc => Hc D = some (.lst ((List.range i).map fun j => V.int (cd.fs.getD j 0 * ((ns.getD j 0 : Nat) : Int)))) ∧ Same H Hc) ⟨upd_same, same_new (Same.refl H) hD⟩ (fun i Hc hi h => ⟨SqT.of (h.2 _ _ hf), SqT.of (h.2 _ _ hr')⟩) ?_ ?_
    · rintro i x Hc Hc' hi ⟨eD, sb⟩ ⟨T', x1, y1, rfl, hT, rfl, ex, ey⟩
      have e1 : x1 = V.int (cd.fs.getD i 0) := by
        have ex : (cd.fs.map V.int)[i]? = some x1 := ex
        rw [List.getElem?_map, List.getElem?_eq_getElem (by omega : i < cd.fs.length)] at ex
        rw [List.getD_eq_getElem?_getD, List.getElem?_eq_getElem (by omega : i < cd.fs.length)]
        exact (Option.some.inj ex).symm
      have e2 : y1 = V.int ((ns.getD i 0 : Nat) : Int) := by
        have ey : (ns.map nV)[i]? = some y1 := ey
        rw [List.getElem?_map, List.getElem?_eq_getElem (by omega : i < ns.length)] at ey
        rw [List.getD_eq_getElem?_getD, List.getElem?_eq_getElem (by omega : i < ns.length)]
        exact (Option.some.inj ey).symm
      subst e1 e2
      have s1 := same_new (o := .tup [V.int (cd.fs.getD i 0), V.int ((ns.getD i 0 : Nat) : Int)]) (Same.refl Hc) hT
      refine ⟨T', _, rfl, SqT.of upd_same, rfl, _, _, rfl, _, _, rfl, rfl, ?_⟩
      have bi : -3 ≤ cd.fs.getD i 0 ∧ cd.fs.getD i 0 ≤ 3 := by
        rw [List.getD_eq_getElem?_getD, List.getElem?_eq_getElem (by omega : i < cd.fs.length)]
        exact fb _ (List.getElem_mem _)
      refine ⟨rfl, yes_to ⟨_, rfl, _, rfl, _, _, rfl, rfl, .inl ⟨by omega, by omega⟩, _, s1 _ _ eD, szL _ (by simp; omega), ?_, same_upd (sb.trans s1) hD⟩⟩
      rw [upd_same, List.range_succ, List.map_append]
      rfl
    · rintro H1 ⟨eD, sb⟩
      have eD : H1 D = some (.lst (((List.range k).map fun j => cd.fs.getD j 0 * ((ns.getD j 0 : Nat) : Int)).map V.int)) := by rw [List.map_map]; exact eD
      refine ⟨D, _, rfl, SqL.of eD, ?_⟩
      rw [← lf, dot_sum _ _ (by omega)]
      refine normG (σ' := [some (.ref t), some (.ref r), some (.int (ZA.dot cd.fs ns)), none, none]) rfl ?_
      match cd, ht with
      | .is fs n, ht =>
        refine ⟨_, rfl, t, _, _, _, rfl, rfl, .inr (SqT.of (sb _ _ ht)), at0, rfl, _, rfl, if_yes rfl ?_⟩
        refine ⟨_, rfl, _, rfl, t, _, _, _, rfl, rfl, .inr (SqT.of (sb _ _ ht)), at2, rfl, ?_⟩
        have q1 := q H1 sb
        have e1 : decide (V.int (ZA.dot (Cond.is fs n).fs ns) = V.int n) = (Cond.is fs n).says (ZA.dot (Cond.is fs n).fs ns) := decide_eq_decide.mpr ⟨fun z => (by injection z), fun z => congrArg V.int z⟩
        rw [← e1] at q1
        exact q1
      | .least fs n, ht =>
        refine ⟨_, rfl, t, _, _, _, rfl, rfl, .inr (SqT.of (sb _ _ ht)), at0, rfl, _, rfl, if_no rfl ?_⟩
        refine un_next ⟨_, rfl, t, _, _, _, rfl, rfl, .inr (SqT.of (sb _ _ ht)), at0, rfl, _, rfl, if_yes rfl ?_⟩
        refine ⟨_, rfl, _, rfl, t, _, _, _, rfl, rfl, .inr (SqT.of (sb _ _ ht)), at2, _, _, rfl, rfl, ?_⟩
        exact q _ sb
      | .rest fs m rs, ⟨ra, ht, hra⟩ =>
        refine ⟨_, rfl, t, _, _, _, rfl, rfl, .inr (SqT.of (sb _ _ ht)), at0, rfl, _, rfl, if_no rfl ?_⟩
        refine un_next ⟨_, rfl, t, _, _, _, rfl, rfl, .inr (SqT.of (sb _ _ ht)), at0, rfl, _, rfl, if_no rfl ?_⟩
        refine un_next ⟨_, rfl, .inl ⟨_, rfl, _, rfl, t, _, _, _, rfl, rfl, .inr (SqT.of (sb _ _ ht)), at2, _, _, rfl, rfl, by have := ok.2.1; omega, _, rfl, t, _, _, _, rfl, rfl, .inr (SqT.of (sb _ _ ht)), at3, ra, _, rfl, .inr (SqT.of (sb _ _ hra)), rfl, by simp [List.all_map, flatV], ?_⟩⟩
        have q1 := q H1 sb
        have e1 : inV (.int ((ZA.dot (Cond.rest fs m rs).fs ns).fmod (m : Int))) (rs.map V.int) = (Cond.rest fs m rs).says (ZA.dot (Cond.rest fs m rs).fs ns) := by
          rw [inV_int, Int.fmod_eq_emod_of_nonneg _ (by omega)]
          rfl
        rw [← e1] at q1
        exact q1
end
theorem cr_allK {X : Cx} {K : PySem.W.Frag} (hK : X.K = K) (hc : X.calm = true) : CallR X (.builtin "all") (rAll K) := hK ▸ cr_all hc
def rowCase (css : List (List Cond)) (ns : List Nat) : Bool := css.any fun cds => cds.all fun c => c.says (ZA.dot c.fs ns)
def spInCases (K : PySem.W.Frag) : Sp := fun vs H Q _ => ∃ (v : V) (r : Addr) (css : List (List Cond)) (k : Nat) (ns : List Nat), vs = [v, .ref r] ∧ CasesAt H v css ∧ (∀ cds ∈ css, ∀ c ∈ cds, c.OkL k) ∧ css.length ≤ 4 ∧ (∀ cds ∈ css, cds.length ≤ 4) ∧ k ≤ 4 ∧ H r = some (.tup (ns.map nV)) ∧ ns.length = k ∧ ∀ H', Same H H' → Q (.bl (rowCase css ns)) H'
section
variable {P : Program} {w : World} {K : PySem.W.Frag} {mg : Str → Option Value} {base : Heap}
theorem sc_law_in_cases : FnScope ["_law_cases_here", "_law_row_here", "_law_condition_here", "_law_case"] ["_law_cases_here", "_law_row_here"] (defScope s_law_in_cases) := ⟨rfl, rfl, rfl, by decide +kernel, rfl, by decide +kernel, by decide +kernel⟩
theorem ok_inCases {f : Addr} {fd : FuncData} (F : FnP K "_law_in_cases" s_law_in_cases f fd) (T : Nb mg) (dHolds : Dn P w K mg base 1 "_law_holds" ["_law_condition_here", "_law_row_here"] (spHolds K)) : FnOk P w K mg base CX0 2 f fd ["_law_cases_here", "_law_row_here"] (spInCases K) := by
  refine F.ok sc_law_in_cases (fun vs H Q E h => ?_) (fun cdv A outer s H vs Q E hr h => ?_)
  · obtain ⟨v, r, css, k, ns, rfl, _⟩ := h
    rfl
  · obtain ⟨v, r, css, k, ns, rfl, ⟨a, vs, rfl, ha, hz⟩, ok, l4, c4, k4, hr', ln, q⟩ := h
    refine ⟨_, PSs.nox (pss_one (ps_ret (pe_callB (cr_any rfl) (by rfl) T.any (by decide +kernel) (pa_cons (pe_lc (own := [("_law_case", 3)]) (g := gName 3) (tt := tYes) rfl sc_law_in_cases.nd (pi_anyK (K := K) rfl (pv 0)) (blkOk_by (N := ["_law_cases_here", "_law_row_here", "_law_condition_here", "_law_case"]) (sc := defScope s_law_in_cases) (by decide +kernel)) (fun _ _ _ _ _ => (pg_name (i := 3) sc_law_in_cases.nd rfl (.inl rfl))) (fun _ _ _ _ _ => pts_nil) (fun _ _ _ _ _ => (pe_callB (cr_allK (K := K) rfl rfl) (by rfl) T.all (by decide +kernel) (pa_cons (pe_lc (own := [("_law_condition_here", 2)]) (g := gName 2) (tt := tYes) rfl sc_law_in_cases.nd (pi_anyK (K := K) rfl (pv 3)) (blkOk_by (N := ["_law_cases_here", "_law_row_here", "_law_condition_here", "_law_case"]) (by rfl)) (fun _ _ _ _ _ => (pg_name (i := 2) sc_law_in_cases.nd rfl (.inl rfl))) (fun _ _ _ _ _ => pts_nil) (fun _ _ _ _ _ => (pe_dn dHolds hr (pa_cons (pv 2) (pa_cons (pv 1) pa_nil))))) pa_nil)))) pa_nil)))), ?_⟩
    refine any_var rfl (xs := vs) (.inr (.inl ha)) (fun J wk => ?_)
    intro D hD
    have lv := hz.1
    refine lc_it wk (fun i Hc => Hc D = some (.lst ((css.take i).map fun cds => V.bl (cds.all fun c => c.says (ZA.dot c.fs ns)))) ∧ Same H Hc) ⟨upd_same, same_new (Same.refl H) hD⟩ (fun i Hc hi h => by rw [h.2 _ _ ha, ha]) ?_ ?_
    · rintro i x Hc Hc' hi ⟨eD, sb⟩ ⟨rfl, ex⟩
      obtain ⟨cds, hc, b, ws, rfl, hb, hw⟩ := hz.at ex
      have lc := c4 cds (List.mem_of_getElem? hc)
      have okc := ok cds (List.mem_of_getElem? hc)
      refine ⟨rfl, yes_to ?_⟩
      refine any_var rfl (xs := ws) (.inr (.inl (sb _ _ hb))) (fun J2 wk2 => ?_)
      intro D2 hD2
      have lw := hw.1
      refine lc_it wk2 (fun j Hx => Hx D2 = some (.lst ((cds.take j).map fun c => V.bl (c.says (ZA.dot c.fs ns)))) ∧ Same Hc' Hx) ⟨upd_same, same_new (Same.refl _) hD2⟩ (fun j Hx hj h => by rw [h.2 _ _ (sb _ _ hb), sb _ _ hb]) ?_ ?_
      · rintro j y Hx Hx' hj ⟨eD2, s2⟩ ⟨rfl, ey⟩
        obtain ⟨c, hcc, hcd⟩ := hw.at ey
        have s3 := sb.trans s2
        refine ⟨rfl, yes_to ⟨_, rfl, _, rfl, y, r, c, k, ns, rfl, hcd.same s3, okc c (List.mem_of_getElem? hcc), k4, s3 _ _ hr', ln, fun H4 s4 => ?_⟩⟩
        refine ⟨_, s4 _ _ eD2, szL _ (by simp; omega), ?_, same_upd (s2.trans s4) hD2⟩
        rw [upd_same, List.take_add_one, hcc, List.map_append]
        rfl
      · rintro H3 ⟨eD2, s2⟩
        refine ⟨D2, cds.map fun c => c.says (ZA.dot c.fs ns), rfl, SqL.of ?_, ?_⟩
        · rw [eD2, List.map_map, lw, List.take_length]
          rfl
        · refine ⟨_, s2 _ _ eD, szL _ (by simp; omega), ?_, same_upd (sb.trans s2) hD⟩
          rw [upd_same, List.take_add_one, hc, List.map_append, List.all_map]
          rfl
    · rintro H1 ⟨eD, sb⟩
      refine ⟨D, css.map fun cds => cds.all fun c => c.says (ZA.dot c.fs ns), rfl, SqL.of ?_, ?_⟩
      · rw [eD, List.map_map, lv, List.take_length]
        rfl
      · have q1 := q H1 sb
        rw [show rowCase css ns = (css.map fun cds => cds.all fun c => c.says (ZA.dot c.fs ns)).any id by rw [List.any_map]; rfl] at q1
        exact q1
end
end K01
set_option maxHeartbeats 4000000
namespace K01
open PySem PySem.Spec PyProof.Rows L2 Z
def RowAt (H : Hp) (v : V) (k : Nat) (ns : List Nat) : Prop := ∃ r, v = .ref r ∧ H r = some (.tup (ns.map nV)) ∧ ns.length = k ∧ ∀ n ∈ ns, n < 2 ^ 200
theorem RowAt.same {H H' : Hp} {v : V} {k : Nat} {ns : List Nat} (h : RowAt H v k ns) (s : Same H H') : RowAt H' v k ns := let ⟨r, e, h1, h2⟩ := h; ⟨r, e, s _ _ h1, h2⟩
theorem RowAt.keep {H H' : Hp} {p : Addr} {v : V} {k : Nat} {ns : List Nat} {kvs : List (Key × V)} (h : RowAt H v k ns) (kp : Keep p H H') (hp : H p = some (.dK kvs)) : RowAt H' v k ns := let ⟨r, e, h1, h2⟩ := h; ⟨r, e, kp _ _ (fun z => by rw [z, hp] at h1; cases h1) h1, h2⟩
theorem RowAt.updL {H : Hp} {D : Addr} {v : V} {k : Nat} {ns : List Nat} {xs : List V} {o : HO} (h : RowAt H v k ns) (e : H D = some (.lst xs)) : RowAt (upd H D o) v k ns := by
  obtain ⟨r, e1, h1, h2⟩ := h
  refine ⟨r, e1, ?_, h2⟩
  rw [upd_ne (fun z => by rw [z, e] at h1; cases h1)]
  exact h1
theorem Zs.append {α : Type} {R : α → V → Prop} {vs ws : List V} {xs ys : List α} (h : Zs R vs xs) (k : Zs R ws ys) : Zs R (vs ++ ws) (xs ++ ys) := by
  obtain ⟨l1, h1⟩ := h
  obtain ⟨l2, h2⟩ := k
  refine ⟨by simp [l1, l2], fun i v x a b => ?_⟩
  rcases Nat.lt_or_ge i vs.length with lt | ge
  · rw [List.getElem?_append_left lt] at a
    rw [List.getElem?_append_left (by omega)] at b
    exact h1 i v x a b
  · rw [List.getElem?_append_right ge] at a
    rw [List.getElem?_append_right (by omega), ← l1] at b
    exact h2 _ v x a b
def spRowD : Sp := fun vs H Q _ => ∃ (p pc : Addr) (k t : Nat), vs = [.ref p, .int (k : Nat)] ∧ 1 ≤ k ∧ k ≤ 3 ∧ t < 700000000 ∧ PenC H p pc t ∧ ∀ v H' ns, PenC H' p pc (t + 40) → Keep p H H' → RowAt H' v k ns → Q v H'
section
variable {P : Program} {w : World} {K : PySem.W.Frag} {mg : Str → Option Value} {base : Heap}
theorem sc_law_row : FnScope ["_law_pen_here", "_law_arity", "_law_place"] ["_law_pen_here", "_law_arity"] (defScope s_law_row) := ⟨rfl, rfl, rfl, by decide +kernel, rfl, by decide +kernel, by decide +kernel⟩
theorem ok_rowD {f : Addr} {fd : FuncData} (F : FnP K "_law_row" s_law_row f fd) (T : Nb mg) (dNumber : Dn P w K mg base 3 "_law_number" ["_law_pen_here"] spNumD) : FnOk P w K mg base CX0 4 f fd ["_law_pen_here", "_law_arity"] spRowD := by
  refine F.ok sc_law_row (fun vs H Q E h => ?_) (fun cdv A outer s H vs Q E hr h => ?_)
  · obtain ⟨p, pc, k, t, rfl, _⟩ := h
    rfl
  · obtain ⟨p, pc, k, t, rfl, k1, k3, ht, hP, q⟩ := h
    refine ⟨_, PSs.nox (pss_one (ps_ret (pe_callTy call_tuple_of (by rfl) T.tuple (by decide +kernel) (pa_cons (pe_lc (own := [("_law_place", 2)]) (g := gName 2) (tt := tYes) rfl sc_law_row.nd (pi_range1 (by rfl) T.range (pa_cons (pv 1) pa_nil)) (blkOk_by (N := ["_law_pen_here", "_law_arity", "_law_place"]) (sc := defScope s_law_row) (by decide +kernel)) (fun _ _ _ _ _ => (pg_name (i := 2) sc_law_row.nd rfl (.inl rfl))) (fun _ _ _ _ _ => pts_nil) (fun _ _ _ _ _ => (pe_dn dNumber hr (pa_cons (pv 0) pa_nil)))) pa_nil)))), ?_⟩
    refine ⟨_, rfl, (k : Nat), rfl, by omega, by omega, ?_⟩
    rw [Int.toNat_natCast]
    intro D hD
    obtain ⟨n1, n2⟩ := hP.free hD
    have sD := same_new (o := .lst []) (Same.refl H) hD
    refine lc_it (walk_range (lo := 0) (n := k)) (fun i Hc => ∃ ys : List Nat, Hc D = some (.lst (ys.map nV)) ∧ ys.length = i ∧ (∀ y ∈ ys, y < 2 ^ 200) ∧ PenC Hc p pc (t + 11 * i) ∧ Keep p H Hc) ⟨[], upd_same, rfl, fun y h => (by cases h), hP.same sD, Keep.of sD⟩ (fun _ _ _ _ => trivial) ?_ ?_
    · rintro i x Hc Hc' hi ⟨ys, eD, ly, by_, pC, kC⟩ ⟨rfl, rfl⟩
      refine ⟨rfl, yes_to ⟨_, rfl, p, pc, t + 11 * i, rfl, by omega, pC, fun H2 d d0 pC2 k2 => ?_⟩⟩
      have eD2 := k2 _ _ n1 eD
      refine ⟨_, eD2, szL _ (by rw [List.length_map]; omega), ys ++ [d], ?_, by simp [ly], fun y h => ?_, (pC2.upd n1 n2).mono (by omega), fun b o nb e => ?_⟩
      · rw [upd_same, List.map_append]
        rfl
      · rcases List.mem_append.mp h with h | h
        · exact by_ y h
        · rw [List.mem_singleton.mp h]
          exact d0
      · rw [upd_ne (ne_of_none e hD)]
        exact k2 _ _ nb (kC _ _ nb e)
    · rintro H1 ⟨ys, eD, ly, by_, pC, kC⟩
      refine ⟨D, _, rfl, .inl ⟨SqL.of eD, fun fa hfa => ?_⟩⟩
      have s2 := same_new (o := .tup (ys.map nV)) (Same.refl H1) hfa
      exact q _ _ ys ((pC.same s2).mono (by omega)) (kC.trans (Keep.of s2)) ⟨fa, rfl, upd_same, ly, by_⟩
end
def rowsOf (m : Nat) : Nat → List (List Nat)
  | 0 => [[]]
  | k + 1 => (rowsOf m k).flatMap fun r => (List.range m).map fun n => r ++ [n]
theorem rowsOf_len (m : Nat) : ∀ k, (rowsOf m k).length = m ^ k
  | 0 => rfl
  | k + 1 => by
    show ((rowsOf m k).flatMap _).length = _
    rw [List.length_flatMap]
    simp [rowsOf_len m k, Nat.pow_succ, List.map_const']
def spRows (K : PySem.W.Frag) : Sp := fun vs H Q _ => ∃ (k m : Nat), vs = [.int (k : Nat), .int (m : Nat)] ∧ 1 ≤ k ∧ k ≤ 3 ∧ m ≤ 40 ∧ m ^ k ≤ 400 ∧ ∀ l H' (vs' : List V) (rs : List (List Nat)), Same H H' → H' l = some (.lst vs') → Zs (fun ns v => RowAt H' v k ns) vs' rs → rs.length ≤ 400 → Q (.ref l) H'
section
variable {P : Program} {w : World} {K : PySem.W.Frag} {mg : Str → Option Value} {base : Heap}
theorem sc_law_rows : FnScope ["_law_arity", "_law_most", "_law_found", "_law_place", "_law_more", "_law_row_here", "_law_number_here"] ["_law_arity", "_law_most"] (defScope s_law_rows) := ⟨rfl, rfl, rfl, by decide +kernel, rfl, by decide +kernel, by decide +kernel⟩
theorem ok_rowsD {f : Addr} {fd : FuncData} (F : FnP K "_law_rows" s_law_rows f fd) (T : Nb mg) : FnOk P w K mg base CX0 1 f fd ["_law_arity", "_law_most"] (spRows K) := by
  refine F.ok sc_law_rows (fun vs H Q E h => ?_) (fun cdv A outer s H vs Q E hr h => ?_)
  · obtain ⟨k, m, rfl, _⟩ := h
    rfl
  · obtain ⟨k, m, rfl, k1, k3, m4, mk, q⟩ := h
    refine ⟨_, PSs.nox (pss_cons (ps_set (i := 2) sc_law_rows.nd rfl (Or.inl rfl) (pe_lst (pa_cons (pe_tup pa_nil) pa_nil)))
      (pss_cons (ps_for PassesOwn.never rfl (pi_range1 (by rfl) T.range (pa_cons (pv 0) pa_nil)) (pg_name (i := 3) sc_law_rows.nd rfl (.inl rfl)) (pss_cons (ps_set (i := 4) sc_law_rows.nd rfl (Or.inl rfl) (pe_lst pa_nil))
      (pss_cons (ps_for PassesOwn.never rfl (pi_anyK (K := K) rfl (pv 2)) (pg_name (i := 5) sc_law_rows.nd rfl (.inr rfl)) (pss_one (ps_expr (pe_bm PySem.F.plainAttrs_list PySem.F.slot_list_extend PySem.F.type_list_extend mt_extend (pv 4) (pa_cons (pe_lc (own := [("_law_number_here", 6)]) (g := gName 6) (tt := tYes) rfl sc_law_rows.nd (pi_range1 (by rfl) T.range (pa_cons (pv 1) pa_nil)) (blkOk_by (N := ["_law_arity", "_law_most", "_law_found", "_law_place", "_law_more", "_law_row_here", "_law_number_here"]) (sc := defScope s_law_rows) (by decide +kernel)) (fun _ _ _ _ _ => (pg_name (i := 6) sc_law_rows.nd rfl (.inl rfl))) (fun _ _ _ _ _ => pts_nil) (fun _ _ _ _ _ => (pe_op (op_catAK (K := K) rfl) (pv 5) (pe_tup (pa_cons (pv 6) pa_nil))))) pa_nil)))))
      (pss_one (ps_set (i := 2) sc_law_rows.nd rfl (Or.inl rfl) (pv 4))))))
      (pss_one (ps_ret (pv 2))))), ?_⟩
    refine ⟨Nat.zero_le _, fun a0 h0 => ⟨sz1, fun l0 h1 => ?_⟩⟩
    have s0 := same_new (o := .tup []) (Same.refl H) h0
    have s1 := same_new (o := .lst [.ref a0]) (Same.refl (upd H a0 (.tup []))) h1
    have e0 := s1 _ _ (upd_same (H := H) (a := a0) (o := .tup []))
    have eL : upd (upd H a0 (.tup [])) l0 (.lst [.ref a0]) l0 = some (.lst [.ref a0]) := upd_same
    have s01 := s0.trans s1
    generalize upd (upd H a0 (.tup [])) l0 (.lst [.ref a0]) = H1 at s01 e0 eL ⊢
    refine normG (σ' := [some (.int (k : Nat)), some (.int (m : Nat)), some (.ref l0), none, none, none, none]) rfl ?_
    refine ⟨_, rfl, (k : Nat), rfl, by omega, by omega, ?_⟩
    rw [Int.toNat_natCast]
    refine for_it (walk_range (lo := 0) (n := k)) (fun i σ Hc => ∃ (l : Addr) (v3 v4 v5 : Option V) (xs : List V), σ = [some (.int (k : Nat)), some (.int (m : Nat)), some (.ref l), v3, v4, v5, none] ∧ Same H Hc ∧ Hc l = some (.lst xs) ∧ Zs (fun ns v => RowAt Hc v i ns) xs (rowsOf m i))
      ⟨l0, none, none, none, _, rfl, s01, eL, zs1 ⟨a0, rfl, e0, rfl, fun n h => by cases h⟩⟩ (fun _ _ _ _ _ => trivial) ?_ ?_
    · rintro i x σ Hc Hc' hi ⟨l, v3, v4, v5, xs, rfl, sb, el, zs⟩ ⟨rfl, rfl⟩
      refine norm (N := fun σ _ => _) (σ' := [some (.int (k : Nat)), some (.int (m : Nat)), some (.ref l), some (.int (0 + (i : Int))), v4, v5, none]) rfl ?_
      refine ⟨Nat.zero_le _, fun l2 h2 => ?_⟩
      have s2 := same_new (o := .lst []) (Same.refl Hc') h2
      have e2 : upd Hc' l2 (.lst []) l2 = some (.lst []) := upd_same
      have nl : l2 ≠ l := fun z => by rw [z, el] at h2; cases h2
      generalize upd Hc' l2 (.lst []) = H2 at s2 e2 ⊢
      refine normG (σ' := [some (.int (k : Nat)), some (.int (m : Nat)), some (.ref l), some (.int (0 + (i : Int))), some (.ref l2), v5, none]) rfl ?_
      have lx : xs.length = (rowsOf m i).length := zs.1
      refine any_var rfl (xs := xs) (.inl (s2 _ _ el)) (fun J wk => ?_)
      refine for_it wk (fun j σ Hx => ∃ (v5 : Option V) (ys : List V), σ = [some (.int (k : Nat)), some (.int (m : Nat)), some (.ref l), some (.int (0 + (i : Int))), some (.ref l2), v5, none] ∧ Same Hc' Hx ∧ Hx l2 = some (.lst ys) ∧ Zs (fun ns v => RowAt Hx v (i + 1) ns) ys (((rowsOf m i).take j).flatMap fun r => (List.range m).map fun n => r ++ [n]))
        ⟨v5, [], rfl, s2, e2, .nil⟩ (fun j σ Hx _ ⟨_, _, _, e, _⟩ => by rw [e _ _ el, s2 _ _ el]) ?_ ?_
      · rintro j y σ Hx Hx' hj ⟨v5', ys, rfl, sx, ex2, zy⟩ ⟨rfl, ey⟩
        obtain ⟨r, hrr, ra, rfl, hra, lra, bra⟩ := zs.at ey
        refine normG (σ' := [some (.int (k : Nat)), some (.int (m : Nat)), some (.ref l), some (.int (0 + (i : Int))), some (.ref l2), some (.ref ra), none]) rfl ?_
        refine ⟨_, rfl, .inl ⟨rfl, _, SqL.of ex2⟩, _, rfl, (m : Nat), rfl, by omega, by omega, ?_⟩
        rw [Int.toNat_natCast]
        intro D hD
        have hra' := sx _ _ hra
        have sD := same_new (o := .lst []) (Same.refl Hx') hD
        refine lc_it (walk_range (lo := 0) (n := m)) (fun n Hy => ∃ zs' : List V, Hy D = some (.lst zs') ∧ Same Hx' Hy ∧ Zs (fun ns v => RowAt Hy v (i + 1) ns) zs' ((List.range n).map fun n => r ++ [n])) ⟨[], upd_same, sD, .nil⟩ (fun _ _ _ _ => trivial) ?_ ?_
        · rintro n x Hy Hy' hn ⟨zs', eD, sy, zz⟩ ⟨rfl, rfl⟩
          refine ⟨rfl, yes_to ⟨_, rfl, _, rfl, sz1, fun b hb => ?_⟩⟩
          have s3 := same_new (o := .tup [V.int (0 + (n : Int))]) (Same.refl Hy') hb
          have eb : upd Hy' b (.tup [V.int (0 + (n : Int))]) b = some (.tup [nV n]) := by
            rw [upd_same, Int.zero_add]
            rfl
          have eD3 := s3 _ _ eD
          have sy3 := sy.trans s3
          generalize upd Hy' b (.tup [V.int (0 + (n : Int))]) = Hz at s3 eb eD3 sy3 ⊢
          have fin : ∀ (u : Addr) (Hw : Hp), Same Hz Hw → Hw u = some (.tup ((r ++ [n]).map nV)) → ∃ acc, Hw D = some (.lst acc) ∧ acc.length < sizeLine ∧ ∃ zs', upd Hw D (.lst (acc ++ [.ref u])) D = some (.lst zs') ∧ Same Hx' (upd Hw D (.lst (acc ++ [.ref u]))) ∧ Zs (fun ns v => RowAt (upd Hw D (.lst (acc ++ [.ref u]))) v (i + 1) ns) zs' ((List.range (n + 1)).map fun n => r ++ [n]) := fun u Hw sw eu => by
            have eDw := sw _ _ eD3
            have lz := zz.1
            refine ⟨zs', eDw, szL _ ?_, _, upd_same, same_upd (sy3.trans sw) hD, ?_⟩
            · rw [lz]
              simp
              omega
            · rw [List.range_succ, List.map_append]
              refine Zs.snoc (zz.imp fun _ _ h => (h.same (s3.trans sw)).updL eDw) (RowAt.updL ⟨u, rfl, eu, by simp [lra], fun x hx => ?_⟩ eDw)
              rcases List.mem_append.mp hx with hx | hx
              · exact bra x hx
              · rw [List.mem_singleton.mp hx]
                exact Nat.lt_trans hn (Nat.lt_of_le_of_lt m4 (by decide))
          refine ⟨ra, b, _, _, rfl, rfl, SqT.of (sy3 _ _ hra'), SqT.of eb, ?_, ?_, ?_, ?_⟩
          · have : r.length ≤ 3 := by omega
            have : ([V.int (0 + (n : Int))]).length = 1 := rfl
            show (r.map nV).length + 1 ≤ sizeLine
            rw [List.length_map]
            exact Nat.le_trans (show r.length + 1 ≤ 4 by omega) (by show 4 ≤ sizeLine; decide)
          · intro e0
            have r0 : r = [] := List.map_eq_nil_iff.mp e0
            refine fin b _ (Same.refl _) ?_
            rw [r0]
            exact eb
          · intro _ e
            cases e
          · intro _ _ u hu
            exact fin u _ (same_new (Same.refl _) hu) (by rw [upd_same, List.map_append]; rfl)
        · rintro Hy ⟨zs', eD, sy, zz⟩
          have lz := zz.1
          have ly := zy.1
          have lr := rowsOf_len m (i + 1)
          have e3 := sy _ _ ex2
          refine ⟨l2, D, ys, zs', rfl, rfl, e3, eD, ?_, _, _, rfl, same_upd (sx.trans sy) h2, upd_same, ?_⟩
          · have e1 : ys.length = (min j (rowsOf m i).length) * m := by
              rw [ly, List.length_flatMap]
              simp [List.map_const']
            have e2 : zs'.length = m := by rw [lz]; simp
            have b1 : (rowsOf m i).length ≤ 1600 := by
              rw [rowsOf_len]
              refine Nat.le_trans (Nat.pow_le_pow_left m4 i) ?_
              have : i ≤ 2 := by omega
              exact Nat.le_trans (Nat.pow_le_pow_right (by decide) this) (by decide)
            have b2 : ys.length ≤ 1600 * 40 := by
              rw [e1]
              exact Nat.mul_le_mul (by omega) m4
            rw [sizeLine_eq]
            omega
          · rw [List.take_add_one, hrr, List.flatMap_append]
            refine Zs.append (zy.imp fun _ _ h => (h.same sy).updL e3) ?_
            show Zs _ zs' (List.flatMap _ [r])
            rw [List.flatMap_cons, List.flatMap_nil, List.append_nil]
            exact zz.imp fun _ _ h => h.updL e3
      · rintro σ Hx ⟨v5', ys, rfl, sx, ex2, zy⟩
        refine ⟨_, rfl, ?_⟩
        refine norm (N := fun σ _ => _) (σ' := [some (.int (k : Nat)), some (.int (m : Nat)), some (.ref l2), some (.int (0 + (i : Int))), some (.ref l2), v5', none]) rfl ?_
        rw [lx, List.take_length] at zy
        exact ⟨l2, _, _, _, ys, rfl, sb.trans sx, ex2, zy⟩
    · rintro σ Hc ⟨l, v3, v4, v5, xs, rfl, sb, el, zs⟩
      have lr := rowsOf_len m k
      exact ⟨_, rfl, q l Hc xs _ sb el zs (by omega)⟩
end
end K01
set_option maxHeartbeats 4000000
namespace K01
open PySem PySem.Spec PyProof.Rows L2 Z
theorem catA_to {K : PySem.W.Frag} {H : Hp} {a b : Addr} {xs ys : List V} {Q : VK} (ha : H a = some (.tup xs)) (hb : H b = some (.tup ys)) (sz : xs.length + ys.length ≤ sizeLine) (k : ∀ u H1, Same H H1 → H1 u = some (.tup (xs ++ ys)) → Q (.ref u) H1) : rCatA K (.ref a) (.ref b) H Q := by
  refine ⟨a, b, xs, ys, rfl, rfl, SqT.of ha, SqT.of hb, sz, fun e => ?_, fun _ e => ?_, fun _ _ p hp => ?_⟩
  · subst e
    exact k b H (Same.refl _) hb
  · subst e
    exact k a H (Same.refl _) (by rw [List.append_nil]; exact ha)
  · exact k p _ (same_new (Same.refl _) hp) upd_same
theorem slA_to {K : PySem.W.Frag} {H : Hp} {a : Addr} {xs : List V} {lo hi : Option Int} {Q : VK} (ha : H a = some (.tup xs)) (k : ∀ u H1, Same H H1 → H1 u = some (.tup (cutV xs lo hi)) → Q (.ref u) H1) : rSlA K (.ref a) lo hi H Q := by
  refine ⟨a, xs, rfl, SqT.of ha, fun e => ?_, fun _ p hp => ?_⟩
  · refine k a H (Same.refl _) ?_
    rw [ha]
    unfold cutV
    rw [e.1, e.2]
    simp
  · exact k p _ (same_new (Same.refl _) hp) upd_same
theorem flat_rep {α : Type} (v : α) : ∀ k : Nat, (List.replicate k [v]).flatten = List.replicate k v
  | 0 => rfl
  | k + 1 => by
    rw [List.replicate_succ, List.flatten_cons, flat_rep v k]
    rfl
theorem repA_to {K : PySem.W.Frag} {H : Hp} {l : Addr} {v : V} {k : Nat} {Q : VK} (hl : H l = some (.tup [v])) (k1 : 1 ≤ k) (k3 : k ≤ 1000) (q : ∀ u H1, Same H H1 → H1 u = some (.tup (List.replicate k v)) → Q (.ref u) H1) : rRepA K (.ref l) (.int (k : Nat)) H Q := by
  refine ⟨l, (k : Nat), [v], rfl, rfl, SqT.of hl, by simp, by omega, by omega, by simp, fun e => ?_, fun _ p hp => ?_⟩
  · have : k = 1 := by omega
    subst this
    exact q l H (Same.refl _) hl
  · refine q p _ (same_new (Same.refl _) hp) ?_
    rw [upd_same, Int.toNat_natCast]
    congr 2
    exact flat_rep v k
theorem any_mk {K : PySem.W.Frag} {tl : TE} {σ : L2.St} {H : Hp} {R : It → Hp → Prop} (Good : Addr → List V → Hp → Prop) (hm : ∀ P : VK, (∀ a xs H1, Good a xs H1 → P (.ref a) H1) → tl σ H P) (hs : ∀ a xs H1, Good a xs H1 → Sq H1 a xs) (k : ∀ a xs H1 J, Good a xs H1 → Walk J xs.length (fun H' => H' a = H1 a) (YAt xs) → R J H1) : iAnyI K tl σ H R := by
  unfold iAnyI iAny
  exact hm _ fun a xs H1 g => ⟨a, rfl, (hs a xs H1 g).walk fun J w => k a xs H1 J g w⟩
theorem if_last {t : TT} {ta tb : TE} {σ : L2.St} {H : Hp} {Q : VK} (Good : V → Prop) (h : (∀ v, Good v → Q v H) → tIf t ta tb σ H Q) (g : ∀ v, Good v → Q v H) : tIf t ta tb σ H Q := h g
/-- a value that is no row of k numbers -/
def Odd (K : PySem.W.Frag) (k : Nat) (H : Hp) (v : V) : Prop := Kin K H v ∧ InRow K H k v none
theorem Odd.same {K : PySem.W.Frag} {k : Nat} {H H' : Hp} {v : V} (h : Odd K k H v) (s : Same H H') : Odd K k H' v := by
  obtain ⟨h1, h2, xs, h3, h4⟩ := h
  refine ⟨h1.same s, h2, xs, ?_, h4⟩
  match xs, h3 with
  | none, ⟨T, t, m⟩ => exact ⟨T, tyOf_same t s, m⟩
  | some xs, ⟨a, e, hx, l, hk⟩ => exact ⟨a, e, hx.elim (fun h => .inl (s _ _ h)) fun h => .inr (s _ _ h), l, fun x hx => (hk x hx).same s⟩
theorem odd_one {K : PySem.W.Frag} {k : Nat} {H : Hp} {v : V} {T : String} (t : TyOf K H v (.type T)) (m : T ∈ ["NoneType", "bool", "int", "str", "dict"]) (n : natV v = true → k ≠ 1) : Odd K k H v :=
  ⟨⟨T, t, by simp only [List.mem_cons, List.not_mem_nil, or_false, tyN] at m ⊢; rcases m with rfl | rfl | rfl | rfl | rfl <;> simp⟩, n, none, ⟨T, t, m⟩, rfl⟩
theorem odd_row {K : PySem.W.Frag} {k : Nat} {H : Hp} {a : Addr} {xs : List V} (h : H a = some (.lst xs) ∨ H a = some (.tup xs)) (l : xs.length ≤ 10) (hx : ∀ x ∈ xs, Kin K H x) (no : rowSays k (some xs) = false) : Odd K k H (.ref a) :=
  ⟨h.elim (fun h => ⟨"list", .lst h, by simp [tyN]⟩) fun h => ⟨"tuple", .tup h, by simp [tyN]⟩, fun e => (by cases e), some xs, ⟨a, rfl, h, l, hx⟩, no⟩
theorem kin_int {K : PySem.W.Frag} {H : Hp} (i : Int) : Kin K H (.int i) := ⟨"int", .int i, by simp [tyN]⟩
theorem kin_bl {K : PySem.W.Frag} {H : Hp} (b : Bool) : Kin K H (.bl b) := ⟨"bool", .bl b, by simp [tyN]⟩
theorem kin_non {K : PySem.W.Frag} {H : Hp} : Kin K H .non := ⟨"NoneType", .non, by simp [tyN]⟩
theorem cut_rep (k : Nat) (v : V) (k1 : 1 ≤ k) : cutV (List.replicate k v) none (some ((k : Int) - 1)) = List.replicate (k - 1) v := by
  unfold cutV
  have e1 : HT.sIx (List.replicate k v).length 0 none = 0 := rfl
  have e2 : HT.sIx (List.replicate k v).length (List.replicate k v).length (some ((k : Int) - 1)) = k - 1 := by
    rw [List.length_replicate]
    obtain ⟨j, rfl⟩ : ∃ j : Nat, k = j + 1 := ⟨k - 1, by omega⟩
    rw [show ((j + 1 : Nat) : Int) - 1 = (j : Int) by omega, HT.sIx_nat]
    omega
  rw [e1, e2]
  simp
def spNoneIn (K : PySem.W.Frag) : Sp := fun vs H Q _ => ∃ (x : V) (p : Addr) (k : Nat) (M : ZA.Aut), vs = [x, .ref p, .int (k : Nat)] ∧ 1 ≤ k ∧ k ≤ 3 ∧ DsAt K H p k M ∧ Few M (2 ^ k) 400 ∧ ∀ H', Same H H' → Q (.bl true) H'
section
variable {P : Program} {w : World} {K : PySem.W.Frag} {mg : Str → Option Value} {base : Heap}
theorem sc_law_none_in : FnScope ["_law_pen_here", "_law_s", "_law_arity", "_law_row_here", "_law_odd", "_law_value"] ["_law_pen_here", "_law_s", "_law_arity"] (defScope s_law_none_in) := ⟨rfl, rfl, rfl, by decide +kernel, rfl, by decide +kernel, by decide +kernel⟩
theorem ok_noneIn {f : Addr} {fd : FuncData} (F : FnP K "_law_none_in" s_law_none_in f fd) (T : Nb mg) (OI : Om P w K mg base (CD K) 4 "__contains__" (spIn K)) : FnOk P w K mg base CX0 5 f fd ["_law_pen_here", "_law_s", "_law_arity"] (spNoneIn K) := by
  refine F.ok sc_law_none_in (fun vs H Q E h => ?_) (fun cdv A outer s H vs Q E hr h => ?_)
  · obtain ⟨x, p, k, M, rfl, _⟩ := h
    rfl
  · obtain ⟨x, p, k, M, rfl, k1, k3, hD, fM, q⟩ := h
    refine ⟨_, PSs.nox (pss_cons (ps_set (i := 3) sc_law_none_in.nd rfl (Or.inl rfl) (pe_op (op_repAK (K := K) rfl) (pe_tup (pa_cons pe_int pa_nil)) (pv 2)))
      (pss_cons (ps_set (i := 4) sc_law_none_in.nd rfl (Or.inl rfl) (pe_lst (pa_cons pe_non (pa_cons pe_str (pa_cons pe_bl (pa_cons (pe_un un_neg pe_int) (pa_cons (pe_op (op_catAK (K := K) rfl) (pv 3) (pe_tup (pa_cons pe_int pa_nil))) (pa_cons (pe_slice (sl_tupAK (K := K) rfl) (pv 3) po_none (po_some (pe_op op_sub (pv 2) pe_int))) (pa_cons (pe_op (op_catAK (K := K) rfl) (pe_slice (sl_tupAK (K := K) rfl) (pv 3) po_none (po_some (pe_op op_sub (pv 2) pe_int))) (pe_tup (pa_cons (pe_un un_neg pe_int) pa_nil))) (pa_cons (pe_op (op_catAK (K := K) rfl) (pe_slice (sl_tupAK (K := K) rfl) (pv 3) po_none (po_some (pe_op op_sub (pv 2) pe_int))) (pe_tup (pa_cons pe_bl pa_nil))) pa_nil))))))))))
      (pss_one (ps_ret (pe_not (pe_callB (cr_any rfl) (by rfl) T.any (by decide +kernel) (pa_cons (pe_lc (own := [("_law_value", 5)]) (g := gName 5) (tt := tYes) rfl sc_law_none_in.nd (pi_anyK (K := K) rfl (pe_op op_cat (pv 4) (pe_lst (pa_cons (pe_op op_rep (pe_lst (pa_cons pe_non pa_nil)) (pv 2)) (pa_cons pe_dnewK (pa_cons (pe_ifExp (pt_cmpR op_gt (pv 2) pe_int (nomark _)) (pe_op op_pow pe_int pe_int) pe_str) pa_nil)))))) (blkOk_by (N := ["_law_pen_here", "_law_s", "_law_arity", "_law_row_here", "_law_odd", "_law_value"]) (sc := defScope s_law_none_in) (by decide +kernel)) (fun _ _ _ _ _ => (pg_name (i := 5) sc_law_none_in.nd rfl (.inl rfl))) (fun _ _ _ _ _ => pts_nil) (fun _ _ _ _ _ => (pe_cmpR (op_inOwn OI hr) (pv 5) (pv 1) (by with_unfolding_all rfl)))) pa_nil))))))), ?_⟩
    refine ⟨sz1, fun T0 h0 => ⟨_, rfl, repA_to upd_same k1 (by omega) fun row H1 s1 e1 => ?_⟩⟩
    have s1' : Same H H1 := (same_new (Same.refl _) h0).trans s1
    have hD1 : DsAt K H1 p k M := DsAt.same hD s1'
    refine normG (σ' := [some x, some (.ref p), some (.int (k : Nat)), some (.ref row), none, none]) rfl ?_
    refine ⟨_, rfl, _, rfl, sz1, fun b1 g1 => ?_⟩
    have t1 := same_new (o := .tup [V.int 1]) (Same.refl H1) g1
    refine catA_to (t1 _ _ e1) upd_same (Nat.le_of_lt (szL _ (by simp; omega))) fun u1 H2 s2 f1 => ?_
    have z2 := t1.trans s2
    refine ⟨_, rfl, _, rfl, _, _, rfl, rfl, _, rfl, slA_to (z2 _ _ e1) fun u2 H3 s3 f2 => ?_⟩
    rw [cut_rep k _ k1] at f2
    have z3 := z2.trans s3
    refine ⟨_, rfl, _, rfl, _, _, rfl, rfl, _, rfl, slA_to (z3 _ _ e1) fun u3 H4 s4 f3 => ?_⟩
    rw [cut_rep k _ k1] at f3
    have z4 := z3.trans s4
    refine ⟨_, rfl, sz1, fun b2 g2 => ?_⟩
    have t2 := same_new (o := .tup [V.int (-1)]) (Same.refl H4) g2
    refine catA_to (t2 _ _ f3) upd_same (Nat.le_of_lt (szL _ (by simp; omega))) fun u4 H5 s5 f4 => ?_
    have z5 := (z4.trans t2).trans s5
    refine ⟨_, rfl, _, rfl, _, _, rfl, rfl, _, rfl, slA_to (z5 _ _ e1) fun u5 H6 s6 f5 => ?_⟩
    rw [cut_rep k _ k1] at f5
    have z6 := z5.trans s6
    refine ⟨sz1, fun b3 g3 => ?_⟩
    have t3 := same_new (o := .tup [V.bl true]) (Same.refl H6) g3
    refine catA_to (t3 _ _ f5) upd_same (Nat.le_of_lt (szL _ (by simp; omega))) fun u6 H7 s7 f6 => ?_
    have z7 := (z6.trans t3).trans s7
    have r5 := s6.trans (t3.trans s7)
    have r3 := t2.trans (s5.trans r5)
    have r2 := s4.trans r3
    have r1 := s3.trans r2
    have c1 := r1 _ _ f1
    have c2 := r2 _ _ f2
    have c4 := r5 _ _ f4
    have hD7 := hD1.same z7
    refine ⟨Nat.le_of_lt (szL _ (by simp)), fun l0 g4 => ?_⟩
    obtain ⟨L, hL⟩ : ∃ L, L = [V.non, .str "2", .bl true, .int (-1), .ref u1, .ref u2, .ref u4, .ref u6] := ⟨_, rfl⟩
    have s8 := same_new (o := .lst L) (Same.refl H7) g4
    have e8 : upd H7 l0 (.lst L) l0 = some (.lst L) := upd_same
    have rep_kin : ∀ (H : Hp) (n : Nat), ∀ x ∈ List.replicate n (V.int 2), Kin K H x := fun H n x hx => by
      rw [(List.mem_replicate.mp hx).2]
      exact kin_int 2
    have hl : ∀ x ∈ L, Odd K k H7 x := by
      rw [hL]
      intro x hx
      simp only [List.mem_cons, List.not_mem_nil, or_false] at hx
      rcases hx with rfl | rfl | rfl | rfl | rfl | rfl | rfl | rfl
      · exact odd_one .non (by simp) (by intro z; cases z)
      · exact odd_one (.str "2") (by simp) (by intro z; cases z)
      · exact odd_one (.bl true) (by simp) (by intro z; cases z)
      · exact odd_one (.int (-1)) (by simp) (by intro z; cases z)
      · refine odd_row (.inr c1) (by simp; omega) (fun x hx => ?_) ?_
        · rcases List.mem_append.mp hx with hx | hx
          · exact rep_kin _ _ x hx
          · rw [List.mem_singleton.mp hx]
            exact kin_int 1
        · simp [rowSays]
      · refine odd_row (.inr c2) (by simp; omega) (rep_kin _ _) ?_
        simp [rowSays]
        omega
      · refine odd_row (.inr c4) (by simp; omega) (fun x hx => ?_) ?_
        · rcases List.mem_append.mp hx with hx | hx
          · exact rep_kin _ _ x hx
          · rw [List.mem_singleton.mp hx]
            exact kin_int _
        · simp [rowSays, natV]
      · refine odd_row (.inr f6) (by simp; omega) (fun x hx => ?_) ?_
        · rcases List.mem_append.mp hx with hx | hx
          · exact rep_kin _ _ x hx
          · rw [List.mem_singleton.mp hx]
            exact kin_bl _
        · simp [rowSays, natV]
    have hl8 : ∀ x ∈ L, Odd K k (upd H7 l0 (.lst L)) x := fun x hx => (hl x hx).same s8
    have hL8 : L.length = 8 := by rw [hL]; rfl
    have hD8 := hD7.same s8
    have z8 := (s1'.trans z7).trans s8
    rw [← hL]
    generalize upd H7 l0 (.lst L) = H8 at e8 hl8 hD8 z8 ⊢
    refine normG (σ' := [some x, some (.ref p), some (.int (k : Nat)), some (.ref row), some (.ref l0), none]) rfl ?_
    refine any_mk (fun a xs H1 => Same H8 H1 ∧ H1 a = some (.lst xs) ∧ xs.length ≤ 20 ∧ ∀ x ∈ xs, Odd K k H1 x) (fun Pq hp => ?_) (fun a xs H1 g => .inl g.2.1) (fun a xs Ha J ⟨sa, ea, la, oa⟩ wk => ?_)
    · refine ⟨_, rfl, sz1, fun l1 g5 => ⟨_, rfl, l1, (k : Nat), [V.non], rfl, rfl, upd_same, by omega, by omega, Nat.le_of_lt (szL _ (by simp; omega)), fun l2 g6 d g7 => ?_⟩⟩
      rw [Int.toNat_natCast, flat_rep] at g7 ⊢
      have s9 := same_new (o := .lst [V.non]) (Same.refl H8) g5
      have s10 := same_new (o := .lst (List.replicate k V.non)) (Same.refl (upd H8 l1 (.lst [V.non]))) g6
      have e10 : upd (upd H8 l1 (.lst [V.non])) l2 (.lst (List.replicate k V.non)) l2 = some (.lst (List.replicate k V.non)) := upd_same
      have s11 := same_new (o := .dK []) (Same.refl (upd (upd H8 l1 (.lst [V.non])) l2 (.lst (List.replicate k V.non)))) g7
      have e11 : upd (upd (upd H8 l1 (.lst [V.non])) l2 (.lst (List.replicate k V.non))) d (.dK []) d = some (.dK []) := upd_same
      have e10 := s11 _ _ e10
      have z11 := (s9.trans s10).trans s11
      generalize upd (upd (upd H8 l1 (.lst [V.non])) l2 (.lst (List.replicate k V.non))) d (.dK []) = H9 at z11 e10 e11 ⊢
      refine if_last (fun v => Odd K k H9 v) (fun g => ⟨_, rfl, _, _, rfl, rfl, ?_⟩) (fun v hv => ⟨Nat.le_of_lt (szL _ (by simp)), fun l3 g8 => ?_⟩)
      · refine ⟨_, rfl, ite2 (fun z => ?_) (fun z => ?_)⟩
        · have z : (1 : Int) < (k : Int) := of_decide_eq_true z
          exact ⟨_, _, rfl, rfl, ⟨by decide, by decide, by decide⟩, g _ (odd_one (.int _) (by simp) fun _ => by omega)⟩
        · exact g _ (odd_one (.str "x") (by simp) (by intro z; cases z))
      · have s12 := same_new (o := .lst [.ref l2, .ref d, v]) (Same.refl H9) g8
        refine ⟨l0, l3, _, _, rfl, rfl, s12 _ _ (z11 _ _ e8), upd_same, Nat.le_of_lt (szL _ (by rw [hL8]; simp)), fun q1 g9 => ?_⟩
        have s13 := same_new (o := .lst (L ++ [.ref l2, .ref d, v])) (Same.refl (upd H9 l3 (.lst [.ref l2, .ref d, v]))) g9
        have z13 := s12.trans s13
        refine hp q1 _ _ ⟨z11.trans z13, upd_same, by rw [List.length_append, hL8]; simp, fun x hx => ?_⟩
        rcases List.mem_append.mp hx with hx | hx
        · exact (hl8 x hx).same (z11.trans z13)
        · simp only [List.mem_cons, List.not_mem_nil, or_false] at hx
          rcases hx with rfl | rfl | rfl
          · refine (odd_row (.inl e10) (by simp; omega) (fun x hx => ?_) ?_).same z13
            · rw [(List.mem_replicate.mp hx).2]
              exact kin_non
            · obtain ⟨j, rfl⟩ : ∃ j, k = j + 1 := ⟨k - 1, by omega⟩
              simp [rowSays, natV, List.replicate_succ]
          · exact (odd_one (.dK e11) (by simp) (by intro z; cases z)).same z13
          · exact hv.same z13
    · intro D hD'
      have hDa := hD8.same sa
      refine lc_it wk (fun i Hc => Hc D = some (.lst ((List.replicate i false).map V.bl)) ∧ Same Ha Hc) ⟨upd_same, same_new (Same.refl _) hD'⟩ (fun i Hc hi h => by rw [h.2 _ _ ea, ea]) ?_ ?_
      · rintro i y Hc Hc' hi ⟨eD, sb⟩ ⟨rfl, ey⟩
        obtain ⟨ok1, ok2⟩ := (oa y (List.mem_of_getElem? ey)).same sb
        have hDc := hDa.same sb
        obtain ⟨dx, r, e, vs, hp', _⟩ := id hDc
        refine ⟨rfl, yes_to ⟨_, rfl, _, rfl, p, dx, _, rfl, hp', p, y, k, M, none, false, rfl, hDc, fM, k1, by omega, ok1, ok2, rfl, fun H4 s4 => ⟨false, rfl, ?_⟩⟩⟩
        refine ⟨_, s4 _ _ eD, szL _ (by simp; omega), ?_, same_upd (sb.trans s4) hD'⟩
        rw [upd_same, List.replicate_succ', List.map_append]
        rfl
      · rintro H1 ⟨eD, sb⟩
        refine ⟨D, _, rfl, SqL.of eD, false, ?_, ?_⟩
        · congr 1
          rw [List.any_eq_false]
          intro b hb
          rw [(List.mem_replicate.mp hb).2]
          decide
        · exact q _ ((z8.trans sa).trans sb)
end
end K01
set_option maxHeartbeats 4000000
namespace K01
open PySem PySem.Spec PyProof.Rows L2 Z
theorem one_least {w' : Nat} {b : Bool} (h : 1 ≤ w') : ZA.Least (ZA.oneA w' b) (fun _ => b) := by
  refine ⟨ZA.oneA w' b, [0], ZA.one_ok h, Nat.zero_lt_one, ⟨rfl, rfl, rfl, ?_, rfl, ?_, ?_, ?_, ?_⟩, ZA.one_lang h⟩
  · refine .cons Nat.zero_lt_one ?_ (.nil 1 1)
    have : ∀ m, ZA.OrdR 1 (List.replicate m 0) 1 := fun m => by
      induction m with
      | zero => exact .nil 1
      | succ m ih => exact .old Nat.zero_lt_one ih
    exact this w'
  · intro i s h
    have : s = 0 := List.mem_singleton.mp (List.mem_of_getElem? h)
    rw [this]
    exact Nat.zero_lt_one
  · intro i s h
    have e : s = 0 := List.mem_singleton.mp (List.mem_of_getElem? h)
    have e2 : i = 0 := by
      have := (List.getElem?_eq_some_iff.mp h).1
      simpa using this
    rw [e, e2]
    rfl
  · intro i s r h1 h2
    have e2 : i = 0 := by
      have := (List.getElem?_eq_some_iff.mp h1).1
      simpa using this
    subst e2
    cases h1
    cases h2
    refine ⟨List.length_replicate, fun c e he => ⟨0, ?_, ?_⟩⟩
    · have : e = 0 := (List.mem_replicate.mp (List.mem_of_getElem? he)).2
      rw [this]
      rfl
    · rw [ZA.to_at (A := ZA.oneA w' b) (s := 0) (r := List.replicate w' 0) rfl he]
      have : e = 0 := (List.mem_replicate.mp (List.mem_of_getElem? he)).2
      rw [this]
  · intro i j s t h1 h2 _
    have a := (List.getElem?_eq_some_iff.mp h1).1
    have b := (List.getElem?_eq_some_iff.mp h2).1
    simp at a b
    omega
theorem one_of {M : ZA.Aut} {w' : Nat} {L : List Nat → Bool} {b : Bool} (h : ZA.Least M L) (hw : M.w = w') (w1 : 1 ≤ w') (e : ∀ u, L u = b) : M = ZA.oneA w' b := h.same (one_least w1) hw e
theorem all_eq {α : Type} {f g : α → Bool} : ∀ {l : List α}, (∀ x ∈ l, f x = g x) → l.all f = l.all g
  | [], _ => rfl
  | x :: l, h => by
    rw [List.all_cons, List.all_cons, h x List.mem_cons_self, all_eq fun y hy => h y (List.mem_cons_of_mem _ hy)]
theorem any_eq {α : Type} {f g : α → Bool} : ∀ {l : List α}, (∀ x ∈ l, f x = g x) → l.any f = l.any g
  | [], _ => rfl
  | x :: l, h => by
    rw [List.any_cons, List.any_cons, h x List.mem_cons_self, any_eq fun y hy => h y (List.mem_cons_of_mem _ hy)]
theorem Cond.Ok.len {k : Nat} {c : Cond} (h : c.Ok k) : c.fs.length = k := by
  match c, h with
  | .is _ _, h => exact h.1
  | .least _ _, h => exact h.1
  | .rest _ _ _, h => exact h.1
theorem case_row {k : Nat} {css : List (List Cond)} (ok : ∀ cds ∈ css, ∀ c ∈ cds, c.OkL k) {ns : List Nat} (ln : ns.length = k) {L : Nat} (big : ∀ n ∈ ns, n < 2 ^ L) : caseSays k css (ZA.word ns L) = rowCase css ns := by
  unfold caseSays rowCase
  refine any_eq fun cds hc => ?_
  unfold saysAll
  refine all_eq fun c h => ?_
  have l := (ok cds hc c h).1.len
  rw [← l, ZA.total_word c.fs L ns (by omega) big]
theorem case_again {k : Nat} (css : List (List Cond)) (u : List Nat) : caseSays k (css ++ css.take 1) u = caseSays k css u := by
  unfold caseSays
  rw [List.any_append]
  cases css with
  | nil => rfl
  | cons c css =>
    show ((saysAll k c u || css.any _) || (saysAll k c u || false)) = (saysAll k c u || css.any _)
    cases saysAll k c u <;> simp
theorem nf_ty {K : PySem.W.Frag} {C : Addr} : ∀ T ∈ tyN, PySem.W.notFirst K C (.type T) = true := by
  intro T h
  simp only [tyN, List.mem_cons, List.not_mem_nil, or_false] at h
  rcases h with rfl | rfl | rfl | rfl | rfl | rfl | rfl <;> rfl
theorem nf_own {K : PySem.W.Frag} {C : Addr} : PySem.W.notFirst K C (.ref C) = true := by simp [PySem.W.notFirst]
theorem rows_wide {M N : ZA.Aut} (hM : M.Ok) (hN : N.Ok) (m0 : 0 < M.n) (h : M.w ≠ N.w) : M.rows ≠ N.rows := by
  intro e
  have hM0 : M.rows[0]? = some M.rows[0] := List.getElem?_eq_getElem m0
  have a := hM.wide 0 _ hM0
  have b := hN.wide 0 _ (by rw [← e]; exact hM0)
  exact h (a.symm.trans b)
def Lk (p : Addr) (H H' : Hp) : Prop := ∀ b o, b ≠ p → H b = some o → (∀ ps, o ≠ .tbl ps) → H' b = some o
theorem Lk.trans {p : Addr} {H H1 H2 : Hp} (a : Lk p H H1) (b : Lk p H1 H2) : Lk p H H2 := fun x o n e t => b x o n (a x o n e t) t
theorem Lk.keep {p : Addr} {H H' : Hp} (a : Keep p H H') : Lk p H H' := fun x o n e _ => a x o n e
theorem Lk.ext {p : Addr} {H H' : Hp} (a : LamX.ExtN H H') : Lk p H H' := fun x o _ e t => a x o e t
theorem Lk.same {p : Addr} {H H' : Hp} (a : Same H H') : Lk p H H' := fun x o _ e _ => a x o e
section
variable {p : Addr} {H H' : Hp} {kvs : List (Key × V)}
theorem Lk.at (s : Lk p H H') (hp : H p = some (.dK kvs)) {b : Addr} {o : HO} (e : H b = some o) (n1 : ∀ kvs, o ≠ .dK kvs) (n2 : ∀ ps, o ≠ .tbl ps) : H' b = some o := s b o (fun z => by rw [z, hp] at e; cases e; exact n1 _ rfl) e n2
theorem Lk.tup (s : Lk p H H') (hp : H p = some (.dK kvs)) {b : Addr} {xs : List V} (e : H b = some (.tup xs)) : H' b = some (.tup xs) := s.at hp e (fun _ z => by cases z) (fun _ z => by cases z)
theorem Lk.lst (s : Lk p H H') (hp : H p = some (.dK kvs)) {b : Addr} {xs : List V} (e : H b = some (.lst xs)) : H' b = some (.lst xs) := s.at hp e (fun _ z => by cases z) (fun _ z => by cases z)
theorem RowAt.lk {v : V} {k : Nat} {ns : List Nat} (h : RowAt H v k ns) (s : Lk p H H') (hp : H p = some (.dK kvs)) : RowAt H' v k ns := let ⟨r, e, h1, h2⟩ := h; ⟨r, e, s.tup hp h1, h2⟩
theorem CondAt.lk {v : V} {c : Cond} (h : CondAt H v c) (s : Lk p H H') (hp : H p = some (.dK kvs)) : CondAt H' v c := by
  obtain ⟨t, fa, e, hf, h⟩ := h
  refine ⟨t, fa, e, s.tup hp hf, ?_⟩
  match c, h with
  | .is _ _, h => exact s.tup hp h
  | .least _ _, h => exact s.tup hp h
  | .rest _ _ _, ⟨ra, h1, h2⟩ => exact ⟨ra, s.tup hp h1, s.tup hp h2⟩
theorem CasesAt.lk {v : V} {css : List (List Cond)} (h : CasesAt H v css) (s : Lk p H H') (hp : H p = some (.dK kvs)) : CasesAt H' v css := let ⟨a, vs, e, h1, h2⟩ := h; ⟨a, vs, e, s.tup hp h1, h2.imp fun _ _ q => let ⟨a, vs, e, h1, h2⟩ := q; ⟨a, vs, e, s.tup hp h1, h2.imp fun _ _ q => q.lk s hp⟩⟩
theorem DsAt.lk {K : PySem.W.Frag} {q : Addr} {k : Nat} {M : ZA.Aut} (h : DsAt K H q k M) (s : Lk p H H') (hp : H p = some (.dK kvs)) : DsAt K H' q k M := let ⟨dx, r, e, vs, a, b, c, d⟩ := h
  ⟨dx, r, e, vs, s.at hp a (fun _ z => by cases z) (fun _ z => by cases z), s.tup hp b, rwz_keep c fun b o u e => s.at hp e (fun _ z => by cases z) (fun _ z => by cases z), s.tup hp d⟩
theorem PenC.ext {pc : Addr} {t : Nat} (h : PenC H p pc t) (s : LamX.ExtN H H') : PenC H' p pc t := by
  obtain ⟨ns, a, l, h1, h2, h3⟩ := h
  exact ⟨ns, a, l, s _ _ h1 (fun _ z => by cases z), s _ _ h2 (fun _ z => by cases z), h3⟩
theorem PenC.dk {pc : Addr} {t : Nat} (h : PenC H p pc t) : ∃ kvs, H p = some (.dK kvs) := by
  obtain ⟨ns, a, l, h1, h2, h3⟩ := h
  exact ⟨_, h1⟩
theorem tabs_keep {TS : List NdefX.NTab} (t : NdefX.TabsN TS H) (s : Keep p H H') (hp : H p = some (.dK kvs)) : NdefX.TabsN TS H' := fun q hq => by
  obtain ⟨ps, h1, h2, h3⟩ := t q hq
  refine ⟨ps, s _ _ (fun z => by rw [z, hp] at h1; cases h1) h1, h2, fun pos cv hc => ?_⟩
  obtain ⟨c, e, h4⟩ := h3 pos cv hc
  exact ⟨c, e, s _ _ (fun z => by rw [z, hp] at h4; cases h4) h4⟩
end
end K01
set_option maxHeartbeats 4000000
namespace K01
open PySem PySem.Spec PyProof.Rows L2 Z
theorem CasesAt.same {H H' : Hp} {v : V} {css : List (List Cond)} (h : CasesAt H v css) (s : Same H H') : CasesAt H' v css := let ⟨a, vs, e, h1, h2⟩ := h; ⟨a, vs, e, s _ _ h1, h2.imp fun _ _ q => let ⟨a, vs, e, h1, h2⟩ := q; ⟨a, vs, e, s _ _ h1, h2.imp fun _ _ q => q.same s⟩⟩
theorem Zs.take {α : Type} {R : α → V → Prop} {vs : List V} {xs : List α} (h : Zs R vs xs) (n : Nat) : Zs R (vs.take n) (xs.take n) := by
  refine ⟨by simp [h.1], fun i v x a b => ?_⟩
  rw [List.getElem?_take] at a b
  split at a
  · rename_i lt
    rw [if_pos lt] at b
    exact h.2 i v x a b
  · cases a
theorem cut_one (vs : List V) : cutV vs none (some 1) = vs.take 1 := by
  unfold cutV
  rw [HT.sIx_none, show (1 : Int) = ((1 : Nat) : Int) from rfl, HT.sIx_nat]
  simp only [List.drop_zero, Nat.sub_zero]
  cases vs with
  | nil => rfl
  | cons v vs => simp
theorem fit_len {css : List (List Cond)} (h : FitC css) : css.length ≤ 4 ∧ ∀ cds ∈ css, cds.length ≤ 4 := by
  rcases h with rfl | ⟨c, rfl, l⟩ | ⟨a, b, rfl⟩ | ⟨c, rfl, l⟩ | ⟨a, b, rfl⟩ <;> simp <;> omega
def spLaw (K : PySem.W.Frag) (TS : List NdefX.NTab) : Sp := fun vs H Q _ => ∃ (a : Addr) (ns : List Int), vs = [.ref a] ∧ SqL K H a (ns.map V.int) ∧ ns.length ≤ 63 ∧ NdefX.TabsN TS H ∧ ∀ H', Q (.bl true) H'
theorem op_eqOwnK {X : Cx} {K : PySem.W.Frag} (hK : X.K = K) {C : Addr} {k j : Nat} {sp : Sp} (O : Om X.prog X.w K X.mg X.base C j "__eq__" sp) (hr : Room k X.A) (hjk : j ≤ k := by decide) : OpR X (compareOp .Eq) (rEqOwn K C sp) := by
  subst hK
  exact op_eqOwn O hr hjk
theorem op_neOwnK {X : Cx} {K : PySem.W.Frag} (hK : X.K = K) {C : Addr} {k j : Nat} {sp : Sp} (O : Om X.prog X.w K X.mg X.base C j "__eq__" sp) (N : NeC K C) (hr : Room k X.A) (hjk : j + 1 ≤ k := by decide) : OpR X (compareOp .NotEq) (rNeOwn K C sp) := by
  subst hK
  exact op_neOwn O N hr hjk
section
variable {P : Program} {w : World} {K : PySem.W.Frag} {mg : Str → Option Value} {base : Heap}
theorem sc_law : FnScope ["_law_script", "_law_pen_here", "_law_lap", "_law_arity", "_law_cases_here", "_law_s", "_law_row_here", "_law_turn", "_law_due", "_law_odd"] ["_law_script"] (defScope s_law) := ⟨rfl, rfl, rfl, by decide +kernel, rfl, by decide +kernel, by decide +kernel⟩
theorem ok_law {f : Addr} {fd : FuncData} {TS : List NdefX.NTab} (F : FnP K "law" s_law f fd) (T : Nb mg) (D : DsTx K mg) (N : NeC K (CD K)) (OI : Om P w K mg base (CD K) 4 "__contains__" (spIn K)) (OE : Om P w K mg base (CD K) 1 "__eq__" (spEqS K))
    (dPen : Dn P w K mg base 1 "_law_pen" ["_law_script"] (spPen K)) (dDraw : Dn P w K mg base 1 "_law_draw" ["_law_pen_here", "_law_many"] spDrawC) (dCases : Dn P w K mg base 3 "_law_cases" ["_law_pen_here", "_law_arity"] spCasesD) (dRow : Dn P w K mg base 4 "_law_row" ["_law_pen_here", "_law_arity"] spRowD)
    (dRows : Dn P w K mg base 1 "_law_rows" ["_law_arity", "_law_most"] (spRows K)) (dNoneIn : Dn P w K mg base 5 "_law_none_in" ["_law_pen_here", "_law_s", "_law_arity"] (spNoneIn K)) (dInCases : Dn P w K mg base 2 "_law_in_cases" ["_law_cases_here", "_law_row_here"] (spInCases K))
    (dDigitSet : Dn P w K mg base 8 "digit_set" ["arity", "cases"] (spDigitSet K TS)) (dIsNone : Dn P w K mg base 1 "is_none" ["a"] (spNone K false)) (dIsAll : Dn P w K mg base 1 "is_all" ["a"] (spNone K true)) : FnOk P w K mg base CX0 9 f fd ["_law_script"] (spLaw K TS) := by
  refine F.ok sc_law (fun vs H Q E h => ?_) (fun cdv A outer s H vs Q E hr h => ?_)
  · obtain ⟨a, ns, rfl, _⟩ := h
    rfl
  · obtain ⟨a, ns, rfl, ha, hl, tabs, q⟩ := h
    refine ⟨_, PSs.nox (pss_cons (ps_set (i := 1) sc_law.nd rfl (Or.inr rfl) (pe_dn dPen hr (pa_cons (pv 0) pa_nil)))
      (pss_cons (ps_for PassesOwn.never rfl (pi_range1 (by rfl) T.range (pa_cons pe_int pa_nil)) (pg_name (i := 2) sc_law.nd rfl (.inl rfl)) (pss_cons (ps_set (i := 3) sc_law.nd rfl (Or.inr rfl) (pe_op op_add pe_int (pe_dn dDraw hr (pa_cons (pv 1) (pa_cons pe_int pa_nil)))))
      (pss_cons (ps_set (i := 4) sc_law.nd rfl (Or.inl rfl) (pe_dn dCases hr (pa_cons (pv 1) (pa_cons (pv 3) pa_nil))))
      (pss_cons (ps_set (i := 5) sc_law.nd rfl (Or.inr rfl) (pe_dn dDigitSet hr (pa_cons (pv 3) (pa_cons (pv 4) pa_nil))))
      (pss_cons (ps_if (PW.pt (pw_or (pt_cmpR op_ne (pe_fld (pv 5) rfl) (pv 3) (nomark _)) (pw_or1 (pt_not (pt_val (pe_dn dNoneIn hr (pa_cons (pv 1) (pa_cons (pv 5) (pa_cons (pv 3) pa_nil))))))))) (pss_one (ps_ret pe_bl)) pss_nil)
      (pss_cons (ps_for PassesOwn.never rfl (pi_anyK (K := K) rfl (pe_op op_cat (pe_dn dRows hr (pa_cons (pv 3) (pa_cons (pe_ix (ix_anyK (K := K) rfl) (pe_lst (pa_cons pe_int (pa_cons pe_int (pa_cons pe_int pa_nil)))) (pe_op op_sub (pv 3) pe_int) (fun _ _ => rfl)) pa_nil))) (pe_lc (own := [("_law_turn", 7)]) (g := gName 7) (tt := tYes) rfl sc_law.nd (pi_range1 (by rfl) T.range (pa_cons pe_int pa_nil)) (blkOk_by (N := ["_law_script", "_law_pen_here", "_law_lap", "_law_arity", "_law_cases_here", "_law_s", "_law_row_here", "_law_turn", "_law_due", "_law_odd"]) (sc := defScope s_law) (by decide +kernel)) (fun _ _ _ _ _ => (pg_name (i := 7) sc_law.nd rfl (.inl rfl))) (fun _ _ _ _ _ => pts_nil) (fun _ _ _ _ _ => (pe_dn dRow hr (pa_cons (pv 1) (pa_cons (pv 3) pa_nil))))))) (pg_name (i := 6) sc_law.nd rfl (.inl rfl)) (pss_cons (ps_set (i := 8) sc_law.nd rfl (Or.inl rfl) (pe_dn dInCases hr (pa_cons (pv 4) (pa_cons (pv 6) pa_nil))))
      (pss_one (ps_if (PW.pt (pw_or (pt_cmpR op_ne (pe_cmpR (op_inOwn OI hr) (pv 6) (pv 5) (by with_unfolding_all rfl)) (pv 8) (nomark _)) (pw_or (pt_cmpR op_ne (pe_cmpR (op_inOwn OI hr) (pe_callTy call_list_of (by rfl) T.list (by decide +kernel) (pa_cons (pv 6) pa_nil)) (pv 5) (by with_unfolding_all rfl)) (pv 8) (nomark _)) (pw_or1 (PW.pt (pw_and (pt_cmpR op_eq (pv 3) pe_int (nomark _)) (pw_and1 (pt_cmpR op_ne (pe_cmpR (op_inOwn OI hr) (pe_ix (ix_anyK (K := K) rfl) (pv 6) pe_int (fun _ _ => rfl)) (pv 5) (by with_unfolding_all rfl)) (pv 8) (nomark _))))))))) (pss_one (ps_ret pe_bl)) pss_nil))))
      (pss_cons (ps_if (PW.pt (pw_or (pt_not (pt_val (pe_dn dIsNone hr (pa_cons (pe_dn dDigitSet hr (pa_cons (pv 3) (pa_cons (pe_tup pa_nil) pa_nil))) pa_nil)))) (pw_or1 (pt_not (pt_val (pe_dn dIsAll hr (pa_cons (pe_dn dDigitSet hr (pa_cons (pv 3) (pa_cons (pe_tup (pa_cons (pe_tup pa_nil) pa_nil)) pa_nil))) pa_nil))))))) (pss_one (ps_ret pe_bl)) pss_nil)
      (pss_cons (ps_if (pt_val (pe_callB (cr_any rfl) (by rfl) T.any (by decide +kernel) (pa_cons (pe_lc (own := [("_law_odd", 9)]) (g := gName 9) (tt := tYes) rfl sc_law.nd (pi_tup (pe_tup (pa_cons pe_non (pa_cons pe_int (pa_cons pe_str (pa_cons (pe_lst pa_nil) (pa_cons (pe_tup (pa_cons pe_int (pa_cons pe_int pa_nil))) (pa_cons (pe_fld (pv 5) rfl) (pa_cons (pe_disp (pps_cons pe_int pe_int pps_nil) (by rfl) (by rfl) (fun z => by cases z) (by decide)) pa_nil))))))))) (blkOk_by (N := ["_law_script", "_law_pen_here", "_law_lap", "_law_arity", "_law_cases_here", "_law_s", "_law_row_here", "_law_turn", "_law_due", "_law_odd"]) (sc := defScope s_law) (by decide +kernel)) (fun _ _ _ _ _ => (pg_name (i := 9) sc_law.nd rfl (.inl rfl))) (fun _ _ _ _ _ => pts_nil) (fun _ _ _ _ _ => (pe_or (pe_cmpR (op_eqOwnK (K := K) rfl OE hr) (pv 5) (pv 9) (nomark _)) (pe_one (pe_not (pe_cmpR (op_neOwnK (K := K) rfl OE N hr) (pv 5) (pv 9) (nomark _))))))) pa_nil))) (pss_one (ps_ret pe_bl)) pss_nil)
      (pss_one (ps_if (PW.pt (pw_or (pt_cmpR (op_neOwn OE N hr) (pv 5) (pe_dn dDigitSet hr (pa_cons (pv 3) (pa_cons (pe_op (op_catAK (K := K) rfl) (pv 4) (pe_slice (sl_tupAK (K := K) rfl) (pv 4) po_none (po_some pe_int))) pa_nil))) (nomark _)) (pw_or1 (pt_cmpR (op_neOwn OE N hr) (pv 5) (pe_dn dDigitSet hr (pa_cons (pv 3) (pa_cons (pv 4) pa_nil))) (nomark _))))) (pss_one (ps_ret pe_bl)) pss_nil))))))))))
      (pss_one (ps_ret (pe_not (pe_cmpR (op_eqOwn OE hr) (pe_dn dDigitSet hr (pa_cons pe_int (pa_cons (pe_tup (pa_cons (pe_tup pa_nil) pa_nil)) pa_nil))) (pe_dn dDigitSet hr (pa_cons pe_int (pa_cons (pe_tup (pa_cons (pe_tup pa_nil) pa_nil)) pa_nil))) (nomark _))))))), ?_⟩
    refine ⟨_, rfl, a, ns, rfl, ha, hl, fun H1 p s1 hp P1 => ?_⟩
    have tb1 := tabs.ext s1
    obtain ⟨pc, P1⟩ := Pen.penC P1
    refine normG (σ' := [some (.ref a), some (.ref p), none, none, none, none, none, none, none, none]) rfl ?_
    refine ⟨(2 : Nat), rfl, by decide, by decide, ?_⟩
    rw [Int.toNat_natCast]
    refine for_it (walk_range (lo := 0) (n := 2)) (fun i σ Hc => ∃ (pc : Addr) (v2 v3 v4 v5 v6 v7 v8 v9 : Option V), σ = [some (.ref a), some (.ref p), v2, v3, v4, v5, v6, v7, v8, v9] ∧ PenC Hc p pc (i * 1000) ∧ NdefX.TabsN TS Hc)
      ⟨pc, _, _, _, _, _, _, _, _, rfl, P1.mono (by omega), tb1⟩ (fun _ _ _ _ _ => trivial) ?_ ?_
    · rintro i x σ Hc Hc' hi ⟨pc, v2, v3, v4, v5, v6, v7, v8, v9, rfl, pC, tb⟩ ⟨rfl, rfl⟩
      refine normG (σ' := [some (.ref a), some (.ref p), some (.int (0 + (i : Int))), v3, v4, v5, v6, v7, v8, v9]) rfl ?_
      refine ⟨_, rfl, p, 3, i * 1000, pc, rfl, by decide, by decide, by omega, pC, fun H2 d d0 d1 pC2 k2 => ⟨_, _, rfl, rfl, ?_⟩⟩
      obtain ⟨k, hk⟩ : ∃ k : Nat, (k : Int) = 1 + d := ⟨(1 + d).toNat, by omega⟩
      have k1 : 1 ≤ k := by omega
      have k3 : k ≤ 3 := by omega
      obtain ⟨kv, hp0⟩ := pC.dk
      have tb2 := tabs_keep tb k2 hp0
      refine normG (σ' := [some (.ref a), some (.ref p), some (.int (0 + (i : Int))), some (.int (k : Nat)), v4, v5, v6, v7, v8, v9]) (by rw [hk]; rfl) ?_
      refine ⟨_, rfl, _, rfl, p, k, i * 1000 + 1, rfl, k1, k3, by omega, pC2.pen, fun cv H3 css pen3 kp3 at3 ok3 => ?_⟩
      obtain ⟨kv2, hp2⟩ := pC2.dk
      have tb3 := tabs_keep tb2 kp3 hp2
      refine normG (σ' := [some (.ref a), some (.ref p), some (.int (0 + (i : Int))), some (.int (k : Nat)), some cv, v5, v6, v7, v8, v9]) rfl ?_
      obtain ⟨pc3, pC3⟩ := Pen.penC pen3
      have okO : ∀ cds ∈ css, ∀ c ∈ cds, c.Ok k := fun cds h c hc => (ok3.2.2 cds h c hc).1
      refine ⟨_, rfl, _, rfl, k, cv, css, rfl, CasesAt.g at3, k1, by omega, ok3.1.g, okO, tb3, fun s H4 M e4 tb4 ds4 ls fM => ?_⟩
      refine normG (σ' := [some (.ref a), some (.ref p), some (.int (0 + (i : Int))), some (.int (k : Nat)), some cv, some (.ref s), v6, v7, v8, v9]) rfl ?_
      have pC4 := pC3.ext e4
      obtain ⟨kv3, hp3⟩ := pC3.dk
      obtain ⟨kv4, hp4⟩ := pC4.dk
      have at4 := at3.lk (Lk.ext (p := p) e4) hp3
      obtain ⟨dx, rr, re, rvs, hs, hsr, _⟩ := id ds4
      refine ⟨_, rfl, s, _, dx, _, _, rfl, hs, D.clD, D.nA, dsf_a, _, rfl, rfl, _, rfl, if_no (by simp) ?_⟩
      refine ⟨_, rfl, _, rfl, _, rfl, .ref p, s, k, M, rfl, k1, k3, ds4, fM, fun H5 s5 => ⟨_, rfl, ?_⟩⟩
      refine if_no rfl (un_next ?_)
      have pC5 := pC4.same s5
      have tb5 := tb4.ext s5
      obtain ⟨m, hm, m40, mk⟩ : ∃ m : Nat, atI [V.int 40, V.int 7, V.int 4] ((k : Int) - 1) = some (.int (m : Nat)) ∧ m ≤ 40 ∧ m ^ k ≤ 400 := by
        have : k = 1 ∨ k = 2 ∨ k = 3 := by omega
        rcases this with rfl | rfl | rfl
        · exact ⟨40, rfl, by decide, by decide⟩
        · exact ⟨7, rfl, by decide, by decide⟩
        · exact ⟨4, rfl, by decide, by decide⟩
      have sz3 : 3 ≤ sizeLine := by show 3 ≤ sizeLine; decide
      refine any_mk (fun b xs Ha => Lk p H5 Ha ∧ PenC Ha p pc3 (i * 1000 + 351) ∧ NdefX.TabsN TS Ha ∧ Ha b = some (.lst xs) ∧ xs.length ≤ 500 ∧ ∀ x ∈ xs, ∃ ns, RowAt Ha x k ns) (fun Pq hq => ?_) (fun b xs H1 g => .inl g.2.2.2.1) (fun b xs Ha J ⟨lk, pCa, tba, ea, la, oa⟩ wk => ?_)
      · refine ⟨_, rfl, sz3, fun l0 g0 => ⟨_, rfl, _, _, rfl, rfl, l0, _, _, _, rfl, rfl, .inl (SqL.of upd_same), hm, k, m, rfl, k1, k3, m40, mk, fun l H6 vs' rs s6 el zs lr => ?_⟩⟩
        have s56 := (same_new (o := .lst [V.int 40, V.int 7, V.int 4]) (Same.refl H5) g0).trans s6
        have pC6 := pC5.same s56
        have tb6 := tb5.ext s56
        refine ⟨(6 : Nat), rfl, by decide, by decide, ?_⟩
        intro D0 hD0
        obtain ⟨n1, n2⟩ := pC6.free hD0
        have sD := same_new (o := .lst []) (Same.refl H6) hD0
        refine lc_it (walk_range (lo := 0) (n := 6)) (fun j Hx => ∃ ys : List V, Hx D0 = some (.lst ys) ∧ ys.length = j ∧ (∀ y ∈ ys, ∃ ns, RowAt Hx y k ns) ∧ PenC Hx p pc3 (i * 1000 + 51 + 40 * j) ∧ Keep p H6 Hx ∧ NdefX.TabsN TS Hx) ⟨[], upd_same, rfl, fun y h => (by cases h), (pC6.same sD).mono (by omega), Keep.of sD, tb6.ext sD⟩ (fun _ _ _ _ => trivial) ?_ ?_
        · rintro j x Hx Hx' hj ⟨ys, eD, ly, hy, pX, kX, tX⟩ ⟨rfl, rfl⟩
          obtain ⟨kvx, hpx⟩ := pX.dk
          refine ⟨rfl, yes_to ⟨_, rfl, _, rfl, p, pc3, k, i * 1000 + 51 + 40 * j, rfl, k1, k3, by omega, pX, fun v Hy ns pY kY hv => ?_⟩⟩
          have eD2 := kY _ _ n1 eD
          refine ⟨_, eD2, szL _ (by omega), ys ++ [v], upd_same, by simp [ly], fun y hy' => ?_, (pY.upd n1 n2).mono (by omega), fun b o nb e => ?_, ?_⟩
          · rcases List.mem_append.mp hy' with hy' | hy'
            · obtain ⟨ns, hr⟩ := hy y hy'
              exact ⟨ns, (hr.keep kY hpx).updL eD2⟩
            · rw [List.mem_singleton.mp hy']
              exact ⟨ns, hv.updL eD2⟩
          · rw [upd_ne (ne_of_none e hD0)]
            exact kY _ _ nb (kX _ _ nb e)
          · exact tabs_upd (tabs_keep tX kY hpx) eD2
        · rintro Hx ⟨ys, eD, ly, hy, pX, kX, tX⟩
          obtain ⟨kvx, hpx⟩ := pC6.dk
          have elx := (Lk.keep kX).lst hpx el
          refine ⟨l, D0, _, _, rfl, rfl, elx, eD, Nat.le_of_lt (szL _ (by rw [zs.1]; omega)), fun q0 g1 => ?_⟩
          have s7 := same_new (o := .lst (vs' ++ ys)) (Same.refl Hx) g1
          refine hq q0 _ _ ⟨((Lk.same s56).trans (Lk.keep kX)).trans (Lk.same s7), (pX.same s7).mono (by omega), tX.ext s7, upd_same, ?_, fun x hx => ?_⟩
          · rw [List.length_append, zs.1]
            omega
          · rcases List.mem_append.mp hx with hx | hx
            · obtain ⟨j, hj⟩ := List.mem_iff_getElem?.mp hx
              obtain ⟨ns, _, hr⟩ := zs.at hj
              exact ⟨ns, (hr.keep kX hpx).same s7⟩
            · obtain ⟨ns, hr⟩ := hy x hx
              exact ⟨ns, hr.same s7⟩
      · have ds5 := ds4.same s5
        have dsa := ds5.lk lk (pC5.dk.choose_spec)
        have ata := (CasesAt.same at4 s5).lk lk (pC5.dk.choose_spec)
        obtain ⟨lc4, cc4⟩ := fit_len ok3.1
        refine for_it wk (fun j σ Hx => ∃ v6 v7 v8 v9 : Option V, σ = [some (.ref a), some (.ref p), some (.int (0 + (i : Int))), some (.int (k : Nat)), some cv, some (.ref s), v6, v7, v8, v9] ∧ Same Ha Hx)
          ⟨_, _, _, _, rfl, Same.refl _⟩ (fun j σ Hx _ ⟨_, _, _, _, _, sx⟩ => by rw [sx _ _ ea, ea]) ?_ ?_
        · rintro j x σ Hx Hx' hj ⟨v6, v7, v8, v9, rfl, sx⟩ ⟨rfl, ex⟩
          obtain ⟨ns, r, rfl, hr0, ln, big⟩ := oa x (List.mem_of_getElem? ex)
          have hrx := sx _ _ hr0
          refine normG (σ' := [some (.ref a), some (.ref p), some (.int (0 + (i : Int))), some (.int (k : Nat)), some cv, some (.ref s), some (.ref r), v7, v8, v9]) rfl ?_
          refine ⟨_, rfl, _, rfl, cv, r, css, k, ns, rfl, CasesAt.same ata sx, ok3.2.2, lc4, cc4, by omega, hrx, ln, fun H7 s7 => ?_⟩
          refine normG (σ' := [some (.ref a), some (.ref p), some (.int (0 + (i : Int))), some (.int (k : Nat)), some cv, some (.ref s), some (.ref r), v7, some (.bl (rowCase css ns)), v9]) rfl ?_
          have ds7 := dsa.same (sx.trans s7)
          obtain ⟨dx7, _, _, _, hs7, _⟩ := id ds7
          have says : InSays M k (rowCase css ns) (some ns) := ⟨ln, big, fun L hL => by rw [ls.lang, case_row ok3.2.2 ln hL]⟩
          have hr7 := s7 _ _ hrx
          refine ⟨_, rfl, _, rfl, s, dx7, _, rfl, hs7, s, .ref r, k, M, some ns, rowCase css ns, rfl, ds7, fM, k1, by omega, ⟨"tuple", .tup hr7, by simp [tyN]⟩, .inr ⟨r, rfl, .inr hr7⟩, says, fun H8 s8 => ⟨_, rfl, ?_⟩⟩
          refine ⟨_, rfl, rfl, _, rfl, if_no (by simp) ?_⟩
          have hr8 := s8 _ _ hr7
          refine ⟨_, rfl, r, _, rfl, .inr (SqT.of hr8), fun l gl => ?_⟩
          have s9 := same_new (o := .lst (ns.map nV)) (Same.refl H8) gl
          have el : upd H8 l (.lst (ns.map nV)) l = some (.lst (ns.map nV)) := upd_same
          have ds9 := (ds7.same s8).same s9
          have hr9 := s9 _ _ hr8
          generalize upd H8 l (.lst (ns.map nV)) = H9 at s9 el ds9 hr9 ⊢
          obtain ⟨dx9, _, _, _, hs9, _⟩ := id ds9
          refine ⟨_, rfl, s, dx9, _, rfl, hs9, s, .ref l, k, M, some ns, rowCase css ns, rfl, ds9, fM, k1, by omega, ⟨"list", .lst el, by simp [tyN]⟩, .inr ⟨l, rfl, .inl el⟩, says, fun H10 s10 => ⟨_, rfl, ?_⟩⟩
          refine ⟨_, rfl, rfl, _, rfl, if_no (by simp) ?_⟩
          have sz := (((sx.trans s7).trans s8).trans s9).trans s10
          have ds10 := ds9.same s10
          have hr10 := s10 _ _ hr9
          refine ⟨_, rfl, rfl, _, rfl, ite2 (fun z => ?_) (fun z => ?_)⟩
          · have e1 : k = 1 := by
              have z := of_decide_eq_true z
              injection z with z
              omega
            obtain ⟨n, rfl⟩ : ∃ n, ns = [n] := by
              match ns, ln with
              | [n], _ => exact ⟨n, rfl⟩
              | [], ln => exact absurd ln (by rw [e1]; decide)
              | _ :: _ :: _, ln => exact absurd ln (by rw [e1]; simp)
            obtain ⟨dxa, _, _, _, hsa, _⟩ := id ds10
            refine ⟨_, rfl, r, _, _, _, rfl, rfl, .inr (SqT.of hr10), at0, _, rfl, s, dxa, _, rfl, hsa, s, .int (n : Nat), k, M, some [n], rowCase css [n], rfl, ds10, fM, k1, by omega, kin_int _, .inl ⟨e1, n, rfl, rfl⟩, says, fun H11 s11 => ⟨_, rfl, ?_⟩⟩
            exact ⟨_, rfl, rfl, _, rfl, if_no (by simp) ⟨_, _, _, _, rfl, sz.trans s11⟩⟩
          · exact if_no rfl ⟨_, _, _, _, rfl, sz⟩
        · rintro σ Hx ⟨v6, v7, v8, v9, rfl, sx⟩
          have dsx := dsa.same sx
          have atx := CasesAt.same ata sx
          have tbx := tba.ext sx
          have pCx := pCa.same sx
          refine ⟨_, rfl, Nat.zero_le _, fun e0 g0 => ⟨k, .ref e0, [], rfl, ⟨e0, [], rfl, .inr upd_same, Zs.nil⟩, k1, by omega, .inl rfl, (fun cds h => by cases h), tbx.ext (same_new (Same.refl _) g0), fun s2 H8 M2 e8 tb8 ds8 ls8 fM8 => ⟨s2, k, M2, rfl, ds8, fM8.ok, fM8.pos, ?_⟩⟩⟩
          have w1 : 1 ≤ 2 ^ k := Nat.pow_pos (by decide)
          have m2 := one_of (b := false) ls8 fM8.wd w1 (fun u => rfl)
          subst m2
          refine ⟨_, rfl, if_no rfl ?_⟩
          have e8' : LamX.ExtN Hx H8 := (LamX.ExtN.of (same_new (o := .tup []) (Same.refl Hx) g0)).trans e8
          have pC8 := pCx.ext e8'
          refine ⟨_, rfl, Nat.zero_le _, fun e1 g1 => ⟨sz1, fun e2 g2 => ?_⟩⟩
          have t1 := same_new (o := .tup []) (Same.refl H8) g1
          have t2 := same_new (o := .tup [.ref e1]) (Same.refl (upd H8 e1 (.tup []))) g2
          have t12 := t1.trans t2
          refine ⟨k, .ref e2, [[]], rfl, ⟨e2, _, rfl, .inr upd_same, zs1 ⟨e1, [], rfl, .inr (t2 _ _ upd_same), Zs.nil⟩⟩, k1, by omega, .inr (.inl ⟨[], rfl, by simp⟩), (fun cds h c hc => by rw [List.mem_singleton.mp h] at hc; cases hc), tb8.ext t12, fun s3 H9 M3 e9 tb9 ds9 ls9 fM9 => ⟨s3, k, M3, rfl, ds9, fM9.ok, fM9.pos, ?_⟩⟩
          have m3 := one_of (b := true) ls9 fM9.wd w1 (fun u => rfl)
          subst m3
          refine ⟨_, rfl, if_no rfl (un_next ?_)⟩
          have e9' : LamX.ExtN Hx H9 := e8'.trans ((LamX.ExtN.of t12).trans e9)
          obtain ⟨kvx, hpx⟩ := pCx.dk
          have pC9 := pCx.ext e9'
          have dsq := dsx.lk (Lk.ext (p := p) e9') hpx
          have atq := CasesAt.lk atx (Lk.ext (p := p) e9') hpx
          obtain ⟨dxq, rq, eq, vq, hsq, hrq, _⟩ := id dsq
          refine ⟨Nat.zero_le _, fun l0 g3 => ⟨sz2, fun t0 g4 => ⟨_, rfl, s, _, dxq, _, _, rfl, ((same_new (Same.refl _) g3).trans (same_new (Same.refl _) g4)) _ _ hsq, D.clD, D.nR, dsf_r, fun d g5 => ⟨upd_same, [((.inl 1 : Key), V.int 2)], rfl, by decide, ?_⟩⟩⟩⟩
          have q1 := same_new (o := .lst []) (Same.refl H9) g3
          have q2 := same_new (o := .tup [V.int 2, V.int 3]) (Same.refl (upd H9 l0 (.lst []))) g4
          have q3 := same_upd (o := .dK (mergeK [] [(.inl 1, .int 2)])) (same_new (o := .dK []) (Same.refl (upd (upd H9 l0 (.lst [])) t0 (.tup [V.int 2, V.int 3]))) g5) g5
          have el := (q2.trans q3) _ _ (upd_same (H := H9) (a := l0) (o := .lst []))
          have et := q3 _ _ (upd_same (H := upd H9 l0 (.lst [])) (a := t0) (o := .tup [V.int 2, V.int 3]))
          have ed : upd (upd (upd (upd H9 l0 (.lst [])) t0 (.tup [V.int 2, V.int 3])) d (.dK [])) d (.dK (mergeK [] [(.inl 1, .int 2)])) d = some (.dK (mergeK [] [(.inl 1, .int 2)])) := upd_same
          have q13 := q1.trans (q2.trans q3)
          generalize upd (upd (upd (upd H9 l0 (.lst [])) t0 (.tup [V.int 2, V.int 3])) d (.dK [])) d (.dK (mergeK [] [(.inl 1, .int 2)])) = H10 at el et ed q13 ⊢
          have kin0 : ∀ x ∈ [V.non, V.int 5, V.str "s", V.ref l0, V.ref t0, V.ref rq, V.ref d], Kin K H10 x := by
            intro x hx
            simp only [List.mem_cons, List.not_mem_nil, or_false] at hx
            rcases hx with rfl | rfl | rfl | rfl | rfl | rfl | rfl
            · exact kin_non
            · exact kin_int 5
            · exact ⟨"str", .str "s", by simp [tyN]⟩
            · exact ⟨"list", .lst el, by simp [tyN]⟩
            · exact ⟨"tuple", .tup et, by simp [tyN]⟩
            · exact ⟨"tuple", .tup (q13 _ _ hrq), by simp [tyN]⟩
            · exact ⟨"dict", .dK ed, by simp [tyN]⟩
          refine ⟨Nat.le_of_lt (szL _ (by simp)), fun t1 g6 => ⟨t1, rfl, ⟨_, SqT.of upd_same⟩, ?_⟩⟩
          have q4 := same_new (o := .tup [V.non, V.int 5, V.str "s", V.ref l0, V.ref t0, V.ref rq, V.ref d]) (Same.refl H10) g6
          have ex0 : upd H10 t1 (.tup [V.non, V.int 5, V.str "s", V.ref l0, V.ref t0, V.ref rq, V.ref d]) t1 = some (.tup [V.non, V.int 5, V.str "s", V.ref l0, V.ref t0, V.ref rq, V.ref d]) := upd_same
          generalize upd H10 t1 (.tup [V.non, V.int 5, V.str "s", V.ref l0, V.ref t0, V.ref rq, V.ref d]) = H11 at q4 ex0 ⊢
          have q14 := q13.trans q4
          have ds11 := dsq.same q14
          intro D0 hD0
          refine lc_it (walk_tup (K := K) (a := t1) (xs := [V.non, V.int 5, V.str "s", V.ref l0, V.ref t0, V.ref rq, V.ref d])) (fun j Hy => Hy D0 = some (.lst ((List.replicate j false).map V.bl)) ∧ Same H11 Hy) ⟨upd_same, same_new (Same.refl _) hD0⟩ (fun j Hy _ h => SqT.of (h.2 _ _ ex0)) ?_ ?_
          · rintro j x Hy Hy' hj ⟨eD, sy⟩ ⟨rfl, ex⟩
            obtain ⟨Ty, ty, tm⟩ := (kin0 x (List.mem_of_getElem? ex)).same (q4.trans sy)
            have dsy := ds11.same sy
            obtain ⟨dxy, _, _, _, hsy, _⟩ := id dsy
            refine ⟨rfl, yes_to ⟨_, rfl, _, rfl, s, dxy, _, _, rfl, hsy, ty, nf_ty Ty tm, s, x, k, M, rfl, dsy, .inl ⟨⟨Ty, ty, tm⟩, ?_⟩⟩⟩
            refine ⟨false, rfl, if_no rfl ⟨_, rfl, _, rfl, s, dxy, _, _, rfl, hsy, ty, nf_ty Ty tm, s, x, k, M, rfl, dsy, .inl ⟨⟨Ty, ty, tm⟩, false, rfl, ?_⟩⟩⟩
            refine ⟨true, rfl, ?_⟩
            refine ⟨_, eD, szL _ (by have hj : j < 7 := hj; simp; omega), ?_, same_upd sy hD0⟩
            rw [upd_same, List.replicate_succ', List.map_append]
            rfl
          · rintro Hy ⟨eD, sy⟩
            refine ⟨D0, _, rfl, SqL.of eD, _, rfl, if_no ?_ (un_next ?_)⟩
            · rw [List.any_eq_false]
              intro b hb
              rw [(List.mem_replicate.mp hb).2]
              decide
            · have e11 : LamX.ExtN Hx Hy := e9'.trans (.of (q14.trans sy))
              have pCy := pCx.ext e11
              have dsy := ds11.same sy
              have tby := tb9.ext (q14.trans sy)
              have aty := CasesAt.same atq (q14.trans sy)
              obtain ⟨ca, cvs, rfl, hca, zca⟩ := aty
              refine ⟨_, rfl, _, rfl, _, rfl, _, rfl, _, rfl, slA_to hca fun u1 Hz z1 f1 => ?_⟩
              rw [cut_one] at f1
              refine catA_to (z1 _ _ hca) f1 ?_ fun u2 Hz2 z2 f2 => ?_
              · have := zca.1
                rw [List.length_take]
                exact Nat.le_of_lt (szL _ (by omega))
              have z12 := z1.trans z2
              have at12 : CasesAt Hz2 (.ref u2) (css ++ css.take 1) := by
                have zz : Zs (fun cds v => CondsAt Hz2 v cds) cvs css := zca.imp fun _ _ q => let ⟨a, vs, e, h1, h2⟩ := q; ⟨a, vs, e, z12 _ _ h1, h2.imp fun _ _ q => q.same z12⟩
                exact ⟨u2, _, rfl, f2, zz.append (zz.take 1)⟩
              have okO2 : ∀ cds ∈ css ++ css.take 1, ∀ c ∈ cds, c.Ok k := fun cds h => by
                rcases List.mem_append.mp h with h | h
                · exact okO cds h
                · exact okO cds (List.mem_of_mem_take h)
              refine ⟨k, .ref u2, css ++ css.take 1, rfl, CasesAt.g at12, k1, by omega, ok3.2.1.g, okO2, tby.ext z12, fun s4 Ha4 M4 e4' tb4' ds4' ls4 fM4 => ?_⟩
              have em4 : M = M4 := ls.same ls4 (by rw [fM.wd, fM4.wd]) fun u => (case_again css u).symm
              subst em4
              obtain ⟨kvy, hpy⟩ := pCy.dk
              have e41 : LamX.ExtN Hy Ha4 := (LamX.ExtN.of z12).trans e4'
              have dsz := dsy.lk (Lk.ext (p := p) e41) hpy
              obtain ⟨dxz, _, _, _, hsz, _⟩ := id dsz
              refine ⟨s, dxz, _, _, rfl, hsz, ds4'.ty D, nf_own, s, .ref s4, k, M, rfl, dsz, .inr ⟨s4, k, M, rfl, ds4', _, rfl, _, rfl, if_no (by simp) ?_⟩⟩
              have atz := CasesAt.lk (p := p) ⟨ca, cvs, rfl, hca, zca⟩ (Lk.ext e41) hpy
              have pCz := pCy.ext e41
              refine ⟨_, rfl, _, rfl, _, rfl, k, .ref ca, css, rfl, CasesAt.g atz, k1, by omega, ok3.1.g, okO, tb4', fun s5 Ha5 M5 e5' tb5' ds5' ls5 fM5 => ?_⟩
              have em5 : M = M5 := ls.same ls5 (by rw [fM.wd, fM5.wd]) fun u => rfl
              subst em5
              obtain ⟨kvz, hpz⟩ := pCz.dk
              have dsw := dsz.lk (Lk.ext (p := p) e5') hpz
              obtain ⟨dxw, _, _, _, hsw, _⟩ := id dsw
              refine ⟨s, dxw, _, _, rfl, hsw, ds5'.ty D, nf_own, s, .ref s5, k, M, rfl, dsw, .inr ⟨s5, k, M, rfl, ds5', _, rfl, _, rfl, if_no (by simp) ?_⟩⟩
              exact ⟨pc3, _, _, _, _, _, _, _, _, rfl, (pCz.ext e5').mono (by omega), tb5'⟩
    · rintro σ Hc ⟨pc, v2, v3, v4, v5, v6, v7, v8, v9, rfl, pC, tb⟩
      refine ⟨Nat.zero_le _, fun e1 g1 => ⟨sz1, fun e2 g2 => ?_⟩⟩
      have t1 := same_new (o := .tup []) (Same.refl Hc) g1
      have t2 := same_new (o := .tup [.ref e1]) (Same.refl (upd Hc e1 (.tup []))) g2
      refine ⟨1, .ref e2, [[]], rfl, ⟨e2, _, rfl, .inr upd_same, zs1 ⟨e1, [], rfl, .inr (t2 _ _ upd_same), Zs.nil⟩⟩, by omega, by omega, .inr (.inl ⟨[], rfl, by simp⟩), (fun cds h c hc => by rw [List.mem_singleton.mp h] at hc; cases hc), tb.ext (t1.trans t2), fun s1 H2 M1 e1' tb1' ds1 ls1 fM1 => ?_⟩
      refine ⟨Nat.zero_le _, fun e3 g3 => ⟨sz1, fun e4 g4 => ?_⟩⟩
      have t3 := same_new (o := .tup []) (Same.refl H2) g3
      have t4 := same_new (o := .tup [.ref e3]) (Same.refl (upd H2 e3 (.tup []))) g4
      refine ⟨2, .ref e4, [[]], rfl, ⟨e4, _, rfl, .inr upd_same, zs1 ⟨e3, [], rfl, .inr (t4 _ _ upd_same), Zs.nil⟩⟩, by omega, by omega, .inr (.inl ⟨[], rfl, by simp⟩), (fun cds h c hc => by rw [List.mem_singleton.mp h] at hc; cases hc), tb1'.ext (t3.trans t4), fun s2 H3 M2 e2' tb2' ds2 ls2 fM2 => ?_⟩
      have pC2 := ((pC.same (t1.trans t2)).ext e1').same (t3.trans t4)
      obtain ⟨kv, hp⟩ := pC2.dk
      have dsa := (ds1.same (t3.trans t4)).lk (Lk.ext (p := p) e2') hp
      obtain ⟨dxz, _, _, _, hsz, _⟩ := id dsa
      refine ⟨s1, dxz, _, _, rfl, hsz, ds2.ty D, nf_own, s1, .ref s2, 1, M1, rfl, dsa, .inr ⟨s2, 2, M2, rfl, ds2, _, rfl, ?_⟩⟩
      have ne : M1.rows ≠ M2.rows := rows_wide fM1.ok fM2.ok fM1.pos (by rw [fM1.wd, fM2.wd]; decide)
      rw [decide_eq_false (fun h => ne h.1)]
      exact q _
end
end K01
set_option maxHeartbeats 0
namespace K01
open PySem PySem.Spec PyProof.Rows L2 Z
theorem inx_of {K : PySem.W.Frag} {C : Addr} (h : insB K C = true) : Inx K C := by
  obtain ⟨h1, h⟩ := He.ba h
  obtain ⟨h2, h⟩ := He.ba h
  obtain ⟨h3, h4⟩ := He.ba h
  exact ⟨He.eqO_ok h1, He.eqO_ok h2, of_decide_eq_true h3, of_decide_eq_true h4⟩
theorem code_of {K : PySem.W.Frag} {h : Heap} {mg : Str → Option Value} {x : Str} {st : Stmt} {f c T : Addr} {fd : FuncData} (X : K.In h) (G : h.Ns mainGlobals mg) (F : FnP K x st f fd) (ht : PySem.W.tabIn K x = some (c, T)) (hm : mg x = some (.ref f)) : fd.code = .ref c := by
  obtain ⟨oc, od, dV, kV, doc, pm, an, cdv, ct, osl, e, lk, _⟩ := F.ex
  subst e
  exact PySem.W.law_code X G ht hm (X _ _ lk) rfl
theorem tab_at {K : PySem.W.Frag} {x : Str} (h : (match PySem.W.tabIn K x with | some (_, a) => (K.lookup a).isNone | _ => false) = true) : ∃ c T, PySem.W.tabIn K x = some (c, T) ∧ K.lookup T = none := by
  cases e : PySem.W.tabIn K x with
  | none =>
    rw [e] at h
    cases h
  | some q =>
    rw [e] at h
    obtain ⟨c, T⟩ := q
    exact ⟨c, T, rfl, Option.isNone_iff_eq_none.mp h⟩
theorem tab_ne {K : PySem.W.Frag} {x y : Str} {c T c' T' : Addr} (l1 : PySem.W.tabIn K x = some (c, T)) (l2 : PySem.W.tabIn K y = some (c', T')) (h : (match PySem.W.tabIn K x, PySem.W.tabIn K y with | some (_, a), some (_, b) => decide (a ≠ b) | _, _ => false) = true) : T ≠ T' := by
  rw [l1, l2] at h
  exact of_decide_eq_true h
abbrev qq : Program := PySem.W.view R.prog [0, 26, 27, 28, 29, 77]
theorem seenR (x : Str) (h : ((recsOf qq).find? fun e => e.name == x).isSome = true) : ∃ d, (recsOf qq).find? (fun e => e.name == x) = some d := Option.isSome_iff_exists.mp h
theorem facts {w : World} {h : Heap} {mg : Str → Option Value} {f : Addr} {P : Program} {K : PySem.W.Frag} (X : K.In h) (Z : ∃ lo mean mb, Top qq lo mean mg mb h) (hfa : mg ("law" : Str) = some (.ref f)) (c : SaysX fa fn K) :
    ∃ (fd : FuncData) (cs : List (Addr × Addr)) (TS : List NdefX.NTab), (∀ p ∈ cs, h.get? p.2 = some { cls := .none, data := .fields #[] }) ∧ (∀ p ∈ cs, K.lookup p.2 = none) ∧ (∀ p ∈ cs, PySem.W.CodeHd h p.1 p.2) ∧ (∀ (s : Shared) (v : Value), BindsTo s fd ⟨[v], []⟩ [("_law_script", v)]) ∧
      (∀ H : Hp, (∀ p ∈ cs, H p.2 = some (.tbl #[])) → NdefX.TabsN TS H) ∧ ∀ base : Heap, K.In base → base.Ns mainGlobals mg → (∀ p ∈ cs, LamX.TabB base mg p.1 p.2) → FnOk P w K mg base CX0 9 f fd ["_law_script"] (spLaw K TS) := by
  obtain ⟨_, _, _, Tp⟩ := Z
  have G := Tp.g
  have gl : ∀ x ∈ glos, mg x = some (.ref (He.ga K x)) := fun x hx => He.glo_ok X G (List.all_eq_true.mp (c.fact 0) x hx)
  have fr : ∀ x ∈ frees, mg x = none := fun x hx => He.free_ok X G (List.all_eq_true.mp (c.fact 1) x hx)
  have ow : ∀ x ∈ owns, Cls K (He.ga K x) ∧ Mk K (He.ga K x) (He.ma K (He.ga K x) "__init__") ∧ Inx K (He.ga K x) := fun x hx => by
    obtain ⟨h1, z⟩ := He.ba (List.all_eq_true.mp (c.fact 2) x hx)
    obtain ⟨h2, h3⟩ := He.ba z
    exact ⟨He.cls_ok h1, He.mkr_ok h2, inx_of h3⟩
  have na : ∀ q ∈ atts, NoAttr K (He.ga K q.1) q.2 := fun q hq => He.noat_ok (List.all_eq_true.mp (c.fact 3) q hq)
  have me : ∀ q ∈ mets, Meth K (He.ga K q.1) q.2 (He.ma K (He.ga K q.1) q.2) := fun q hq => He.meth_ok (List.all_eq_true.mp (c.fact 4) q hq)
  have kt := c.fact 7
  unfold kits at kt
  simp only [Bool.and_eq_true, decide_eq_true_eq] at kt
  obtain ⟨⟨⟨⟨⟨⟨⟨⟨_, kDD⟩, kNoneType⟩, kbool⟩, kint⟩, kstr⟩, klist⟩, ktuple⟩, kdict⟩ := kt
  have gcd : mg "gcd" = some (.builtin "math.gcd") := PySem.W.mg_of X G (He.eqO_ok (c.fact 8))
  have con0 : ∀ q ∈ ([("SURELY_IN", -1125899906842624), ("SURELY_OUT", -1099511627776), ("BETWEEN", -35184372088832), ("MOST_STATES", 400), ("LABORIOUS", 1000000)] : List (Str × Int)), ∃ t, mg q.1 = some (.int q.2 t) := fun q hq => by
    have z := List.all_eq_true.mp (c.fact 9) q hq
    cases e : PySem.W.nsIn K mainGlobals q.1 with
    | none =>
      rw [e] at z
      cases z
    | some o =>
      rw [e] at z
      cases o with
      | none => cases z
      | some v =>
        cases v with
        | int i t =>
          have e2 : i = q.2 := of_decide_eq_true z
          subst e2
          exact ⟨t, PySem.W.mg_of X G e⟩
        | _ => cases z
  obtain ⟨b1, z⟩ := He.ba (c.fact 10)
  obtain ⟨b2, z⟩ := He.ba z
  obtain ⟨b3, b4⟩ := He.ba z
  have gB := He.glo_ok X G b1
  have gE := He.glo_ok X G b2
  have hKB : ∀ H : Hp, KpAt K H (He.ga K "BOTH") fun a b => a && b := fun H => kpB_ok b3 H
  have hKE : ∀ H : Hp, KpAt K H (He.ga K "EITHER") fun a b => a || b := fun H => kpB_ok b4 H
  obtain ⟨ne1, ne2⟩ := He.ba (c.fact 11)
  have N : NeC K (CD K) := ⟨He.eqO_ok ne1, of_decide_eq_true ne2⟩
  have T : Nb mg := { int := fr _ (by decide +kernel), len := fr _ (by decide +kernel), list := fr _ (by decide +kernel), isi := fr _ (by decide +kernel), range := fr _ (by decide +kernel), str := fr _ (by decide +kernel), bool := fr _ (by decide +kernel), max := fr _ (by decide +kernel), min := fr _ (by decide +kernel), tuple := fr _ (by decide +kernel), all := fr _ (by decide +kernel), any := fr _ (by decide +kernel), set := fr _ (by decide +kernel), sorted := fr _ (by decide +kernel), enumerate := fr _ (by decide +kernel), sum := fr _ (by decide +kernel), zip := fr _ (by decide +kernel), dict := fr _ (by decide +kernel), reversed := fr _ (by decide +kernel) }
  have kT : ∀ T ∈ tyN, PySem.W.kitOne K (.type T) (.ref (CD K)) = some false := fun T h => by
    simp only [tyN, List.mem_cons, List.not_mem_nil, or_false] at h
    rcases h with rfl | rfl | rfl | rfl | rfl | rfl | rfl
    · exact kNoneType
    · exact kbool
    · exact kint
    · exact kstr
    · exact klist
    · exact ktuple
    · exact kdict
  have D : DsTx K mg := { gD := gl "DigitSet" (by decide +kernel), clD := (ow "DigitSet" (by decide +kernel)).1, mkD := (ow "DigitSet" (by decide +kernel)).2.1, ixD := (ow "DigitSet" (by decide +kernel)).2.2, nA := na ("DigitSet", "arity") (by decide +kernel), nR := na ("DigitSet", "rows") (by decide +kernel), nE := na ("DigitSet", "ends") (by decide +kernel), nS := na ("DigitSet", "states") (by decide +kernel), kDD := kDD, kTD := kT }
  obtain ⟨fd_verdict_of, F_verdict_of⟩ := c.def_ 11 (d := d_verdict_of) rfl
  obtain ⟨fd_settled, F_settled⟩ := c.def_ 8 (d := d_settled) rfl
  obtain ⟨fd_numbered, F_numbered⟩ := c.def_ 12 (d := d_numbered) rfl
  obtain ⟨fd_in_order, F_in_order⟩ := c.def_ 6 (d := d_in_order) rfl
  obtain ⟨fd_refined, F_refined⟩ := c.def_ 5 (d := d_refined) rfl
  obtain ⟨fd_ahead_of_cycles, F_ahead_of_cycles⟩ := c.def_ 4 (d := d_ahead_of_cycles) rfl
  obtain ⟨fd_without_states, F_without_states⟩ := c.def_ 3 (d := d_without_states) rfl
  obtain ⟨fd_classes_of, F_classes_of⟩ := c.def_ 2 (d := d_classes_of) rfl
  obtain ⟨fd_minimal, F_minimal⟩ := c.def_ 0 (d := d_minimal) rfl
  obtain ⟨fd_minimal_up_to, F_minimal_up_to⟩ := c.def_ 1 (d := d_minimal_up_to) rfl
  obtain ⟨fd_arity_of, F_arity_of⟩ := c.def_ 7 (d := d_arity_of) rfl
  obtain ⟨fd_joined_freely, F_joined_freely⟩ := c.def_ 10 (d := d_joined_freely) rfl
  obtain ⟨fd_digit_sums, F_digit_sums⟩ := c.def_ 17 (d := d_digit_sums) rfl
  obtain ⟨fd_explored_freely, F_explored_freely⟩ := c.def_ 16 (d := d_explored_freely) rfl
  obtain ⟨fd_explored, F_explored⟩ := c.def_ 15 (d := d_explored) rfl
  obtain ⟨fd_least_machine, F_least_machine⟩ := c.def_ 19 (d := d_least_machine) rfl
  obtain ⟨fd_between_machine, F_between_machine⟩ := c.def_ 18 (d := d_between_machine) rfl
  obtain ⟨fd_one_rest_machine, F_one_rest_machine⟩ := c.def_ 21 (d := d_one_rest_machine) rfl
  obtain ⟨fd_shortest, F_shortest⟩ := c.def_ 22 (d := d_shortest) rfl
  obtain ⟨fd_rest_machine, F_rest_machine⟩ := c.def_ 20 (d := d_rest_machine) rfl
  obtain ⟨fd_condition_machine, F_condition_machine⟩ := c.def_ 23 (d := d_condition_machine) rfl
  obtain ⟨fd_empty_machine, F_empty_machine⟩ := c.def_ 13 (d := d_empty_machine) rfl
  obtain ⟨fd_full_machine, F_full_machine⟩ := c.def_ 14 (d := d_full_machine) rfl
  obtain ⟨fd_case_machines, F_case_machines⟩ := c.def_ 24 (d := d_case_machines) rfl
  obtain ⟨fd_joined, F_joined⟩ := c.def_ 9 (d := d_joined) rfl
  obtain ⟨fd_in_all, F_in_all⟩ := c.def_ 27 (d := d_in_all) rfl
  obtain ⟨fd_joined_at_last, F_joined_at_last⟩ := c.def_ 26 (d := d_joined_at_last) rfl
  obtain ⟨fd_is_laborious, F_is_laborious⟩ := c.def_ 30 (d := d_is_laborious) rfl
  obtain ⟨fd_machine_of_cases, F_machine_of_cases⟩ := c.def_ 25 (d := d_machine_of_cases) rfl
  obtain ⟨fd_is_integer, F_is_integer⟩ := c.def_ 28 (d := d_is_integer) rfl
  obtain ⟨fd_is_natural, F_is_natural⟩ := c.def_ 29 (d := d_is_natural) rfl
  obtain ⟨fd_is_row, F_is_row⟩ := c.def_ 38 (d := d_is_row) rfl
  obtain ⟨fd_state_behind, F_state_behind⟩ := c.def_ 39 (d := d_state_behind) rfl
  obtain ⟨fd_least_told_set, F_least_told_set⟩ := c.def_ 40 (d := d_least_told_set) rfl
  obtain ⟨fd_digit_set, F_digit_set⟩ := c.def_ 41 (d := d_digit_set) rfl
  obtain ⟨fd_is_none, F_is_none⟩ := c.def_ 42 (d := d_is_none) rfl
  obtain ⟨fd_is_all, F_is_all⟩ := c.def_ 43 (d := d_is_all) rfl
  obtain ⟨fd__law_pen, F__law_pen⟩ := c.def_ 44 (d := d_law_pen) rfl
  obtain ⟨fd__law_draw, F__law_draw⟩ := c.def_ 45 (d := d_law_draw) rfl
  obtain ⟨fd__law_pick, F__law_pick⟩ := c.def_ 46 (d := d_law_pick) rfl
  obtain ⟨fd__law_big, F__law_big⟩ := c.def_ 47 (d := d_law_big) rfl
  obtain ⟨fd__law_condition, F__law_condition⟩ := c.def_ 48 (d := d_law_condition) rfl
  obtain ⟨fd__law_cases, F__law_cases⟩ := c.def_ 49 (d := d_law_cases) rfl
  obtain ⟨fd__law_holds, F__law_holds⟩ := c.def_ 50 (d := d_law_holds) rfl
  obtain ⟨fd__law_in_cases, F__law_in_cases⟩ := c.def_ 51 (d := d_law_in_cases) rfl
  obtain ⟨fd__law_number, F__law_number⟩ := c.def_ 52 (d := d_law_number) rfl
  obtain ⟨fd__law_row, F__law_row⟩ := c.def_ 53 (d := d_law_row) rfl
  obtain ⟨fd__law_rows, F__law_rows⟩ := c.def_ 54 (d := d_law_rows) rfl
  obtain ⟨fd__law_none_in, F__law_none_in⟩ := c.def_ 55 (d := d_law_none_in) rfl
  obtain ⟨fd_law, F_law⟩ := c.def_ 56 (d := d_law) rfl
  obtain ⟨fdDigitSet__init__, FDigitSet__init__⟩ := c.def_ 58 (d := dDigitSet__init__) rfl
  obtain ⟨fdDigitSet__contains__, FDigitSet__contains__⟩ := c.def_ 59 (d := dDigitSet__contains__) rfl
  obtain ⟨fdDigitSet__eq__, FDigitSet__eq__⟩ := c.def_ 60 (d := dDigitSet__eq__) rfl
  have e := hfa.symm.trans (gl "law" (by decide +kernel))
  cases e
  have lt : ∀ x ∈ (["between_machine", "least_machine", "rest_machine", "one_rest_machine"] : List Str), (match PySem.W.tabIn K x with | some (_, a) => (K.lookup a).isNone | _ => false) = true := fun x hx => List.all_eq_true.mp (c.fact 12) x hx
  have lp : ∀ q ∈ ([("between_machine", "least_machine"), ("between_machine", "rest_machine"), ("between_machine", "one_rest_machine"), ("least_machine", "rest_machine"), ("least_machine", "one_rest_machine"), ("rest_machine", "one_rest_machine")] : List (Str × Str)), (match PySem.W.tabIn K q.1, PySem.W.tabIn K q.2 with | some (_, a), some (_, b) => decide (a ≠ b) | _, _ => false) = true := fun q hq => List.all_eq_true.mp (c.fact 13) q hq
  obtain ⟨c1, T1, l1, n1⟩ := tab_at (lt "between_machine" (by decide +kernel))
  obtain ⟨r1, s1⟩ := seenR "between_machine" (by kernel_rfl)
  obtain ⟨h1, t1⟩ := PySem.W.tab_of Tp X s1 l1
  have k1 := code_of (x := "between_machine") (st := s_between_machine) (f := He.ga K "between_machine") X G F_between_machine l1 (gl "between_machine" (by decide +kernel))
  obtain ⟨c2, T2, l2, n2⟩ := tab_at (lt "least_machine" (by decide +kernel))
  obtain ⟨r2, s2⟩ := seenR "least_machine" (by kernel_rfl)
  obtain ⟨h2, t2⟩ := PySem.W.tab_of Tp X s2 l2
  have k2 := code_of (x := "least_machine") (st := s_least_machine) (f := He.ga K "least_machine") X G F_least_machine l2 (gl "least_machine" (by decide +kernel))
  obtain ⟨c3, T3, l3, n3⟩ := tab_at (lt "rest_machine" (by decide +kernel))
  obtain ⟨r3, s3⟩ := seenR "rest_machine" (by kernel_rfl)
  obtain ⟨h3, t3⟩ := PySem.W.tab_of Tp X s3 l3
  have k3 := code_of (x := "rest_machine") (st := s_rest_machine) (f := He.ga K "rest_machine") X G F_rest_machine l3 (gl "rest_machine" (by decide +kernel))
  obtain ⟨c4, T4, l4, n4⟩ := tab_at (lt "one_rest_machine" (by decide +kernel))
  obtain ⟨r4, s4⟩ := seenR "one_rest_machine" (by kernel_rfl)
  obtain ⟨h4, t4⟩ := PySem.W.tab_of Tp X s4 l4
  have k4 := code_of (x := "one_rest_machine") (st := s_one_rest_machine) (f := He.ga K "one_rest_machine") X G F_one_rest_machine l4 (gl "one_rest_machine" (by decide +kernel))
  have d12 : T1 ≠ T2 := tab_ne l1 l2 (lp ("between_machine", "least_machine") (by decide +kernel))
  have d13 : T1 ≠ T3 := tab_ne l1 l3 (lp ("between_machine", "rest_machine") (by decide +kernel))
  have d14 : T1 ≠ T4 := tab_ne l1 l4 (lp ("between_machine", "one_rest_machine") (by decide +kernel))
  have d23 : T2 ≠ T3 := tab_ne l2 l3 (lp ("least_machine", "rest_machine") (by decide +kernel))
  have d24 : T2 ≠ T4 := tab_ne l2 l4 (lp ("least_machine", "one_rest_machine") (by decide +kernel))
  have d34 : T3 ≠ T4 := tab_ne l3 l4 (lp ("rest_machine", "one_rest_machine") (by decide +kernel))
  refine ⟨fd_law, [(c1, T1), (c2, T2), (c3, T3), (c4, T4)], [(T1, nm_between_machine), (T2, nm_least_machine), (T3, nm_rest_machine), (T4, nm_one_rest_machine)], ?_, ?_, ?_, fun s v => FunD.bindsA (ps := ["_law_script"]) F_law (fun _ _ _ _ _ _ us hl => match us, hl with | [_], _ => rfl) s [v] rfl, ?_, fun base _ _ TB => ?_⟩
  · intro p hp
    simp only [List.mem_cons, List.not_mem_nil, or_false] at hp
    rcases hp with rfl | rfl | rfl | rfl
    · exact t1
    · exact t2
    · exact t3
    · exact t4
  · intro p hp
    simp only [List.mem_cons, List.not_mem_nil, or_false] at hp
    rcases hp with rfl | rfl | rfl | rfl
    · exact n1
    · exact n2
    · exact n3
    · exact n4
  · intro p hp
    simp only [List.mem_cons, List.not_mem_nil, or_false] at hp
    rcases hp with rfl | rfl | rfl | rfl
    · exact h1
    · exact h2
    · exact h3
    · exact h4
  · intro H hT p hp
    simp only [List.mem_cons, List.not_mem_nil, or_false] at hp
    rcases hp with rfl | rfl | rfl | rfl
    · exact NdefX.TabN.nil (hT (c1, T1) (by simp))
    · exact NdefX.TabN.nil (hT (c2, T2) (by simp))
    · exact NdefX.TabN.nil (hT (c3, T3) (by simp))
    · exact NdefX.TabN.nil (hT (c4, T4) (by simp))
  have ML1 : MkN base mg [(T1, nm_between_machine), (T2, nm_least_machine), (T3, nm_rest_machine), (T4, nm_one_rest_machine)] nm_between_machine c1 T1 := ⟨TB (c1, T1) (by simp), by simp, fun p hp e => by
    simp only [List.mem_cons, List.not_mem_nil, or_false] at hp
    rcases hp with rfl | rfl | rfl | rfl
    · rfl
    · exact absurd e.symm d12
    · exact absurd e.symm d13
    · exact absurd e.symm d14⟩
  have ML2 : MkN base mg [(T1, nm_between_machine), (T2, nm_least_machine), (T3, nm_rest_machine), (T4, nm_one_rest_machine)] nm_least_machine c2 T2 := ⟨TB (c2, T2) (by simp), by simp, fun p hp e => by
    simp only [List.mem_cons, List.not_mem_nil, or_false] at hp
    rcases hp with rfl | rfl | rfl | rfl
    · exact absurd e d12
    · rfl
    · exact absurd e.symm d23
    · exact absurd e.symm d24⟩
  have ML3 : MkN base mg [(T1, nm_between_machine), (T2, nm_least_machine), (T3, nm_rest_machine), (T4, nm_one_rest_machine)] nm_rest_machine c3 T3 := ⟨TB (c3, T3) (by simp), by simp, fun p hp e => by
    simp only [List.mem_cons, List.not_mem_nil, or_false] at hp
    rcases hp with rfl | rfl | rfl | rfl
    · exact absurd e d13
    · exact absurd e d23
    · rfl
    · exact absurd e.symm d34⟩
  have ML4 : MkN base mg [(T1, nm_between_machine), (T2, nm_least_machine), (T3, nm_rest_machine), (T4, nm_one_rest_machine)] nm_one_rest_machine c4 T4 := ⟨TB (c4, T4) (by simp), by simp, fun p hp e => by
    simp only [List.mem_cons, List.not_mem_nil, or_false] at hp
    rcases hp with rfl | rfl | rfl | rfl
    · exact absurd e d14
    · exact absurd e d24
    · exact absurd e d34
    · rfl⟩
  have D_verdict_of : Dn P w K mg base 1 "verdict_of" ["pair"] (spVerdict K) := ⟨_, _, ok_verdict F_verdict_of (con0 ("SURELY_IN", -1125899906842624) (by simp)) (con0 ("SURELY_OUT", -1099511627776) (by simp)), gl _ (by decide +kernel), F_verdict_of.kp, FunD.bindsN (ps := ["pair"]) F_verdict_of fun _ _ _ _ _ _ us hl => match us, hl with | [_], _ => rfl⟩
  have D_settled : Dn P w K mg base 1 "settled" ["rows", "ends", "sure"] (spSettled K) := ⟨_, _, ok_settled F_settled T, gl _ (by decide +kernel), F_settled.kp, FunD.bindsN (ps := ["rows", "ends", "sure"]) F_settled fun _ _ _ _ _ _ us hl => match us, hl with | [_, _, _], _ => rfl⟩
  have D_numbered : Dn P w K mg base 2 "numbered" ["machine", "factor", "sure"] (spNumbered K) := ⟨_, _, ok_numbered F_numbered T D_settled, gl _ (by decide +kernel), F_numbered.kp, FunD.bindsN (ps := ["machine", "factor", "sure"]) F_numbered fun _ _ _ _ _ _ us hl => match us, hl with | [_, _, _], _ => rfl⟩
  have D_in_order : Dn P w K mg base 1 "in_order" ["rows", "ends", "marks"] spInOrder := ⟨_, _, ok_inOrder F_in_order T, gl _ (by decide +kernel), F_in_order.kp, FunD.bindsN (ps := ["rows", "ends", "marks"]) F_in_order fun _ _ _ _ _ _ us hl => match us, hl with | [_, _, _], _ => rfl⟩
  have D_refined : Dn P w K mg base 1 "refined" ["rows", "marks", "most"] spRefined := ⟨_, _, ok_refined F_refined T, gl _ (by decide +kernel), F_refined.kp, FunD.bindsN (ps := ["rows", "marks", "most"]) F_refined fun _ _ _ _ _ _ us hl => match us, hl with | [_, _, _], _ => rfl⟩
  have D_ahead_of_cycles : Dn P w K mg base 1 "ahead_of_cycles" ["rows"] spAhead := ⟨_, _, ok_ahead F_ahead_of_cycles T, gl _ (by decide +kernel), F_ahead_of_cycles.kp, FunD.bindsN (ps := ["rows"]) F_ahead_of_cycles fun _ _ _ _ _ _ us hl => match us, hl with | [_], _ => rfl⟩
  have D_without_states : Dn P w K mg base 1 "without_states" ["rows", "gone"] spWithout := ⟨_, _, ok_without F_without_states T, gl _ (by decide +kernel), F_without_states.kp, FunD.bindsN (ps := ["rows", "gone"]) F_without_states fun _ _ _ _ _ _ us hl => match us, hl with | [_, _], _ => rfl⟩
  have D_classes_of : Dn P w K mg base 2 "classes_of" ["rows", "ends", "most"] spClasses := ⟨_, _, ok_classes F_classes_of T D_ahead_of_cycles D_refined D_without_states, gl _ (by decide +kernel), F_classes_of.kp, FunD.bindsN (ps := ["rows", "ends", "most"]) F_classes_of fun _ _ _ _ _ _ us hl => match us, hl with | [_, _, _], _ => rfl⟩
  have D_minimal : Dn P w K mg base 3 "minimal" ["rows", "ends"] spMinimal := ⟨_, _, ok_minimal F_minimal T D_classes_of D_in_order, gl _ (by decide +kernel), F_minimal.kp, FunD.bindsN (ps := ["rows", "ends"]) F_minimal fun _ _ _ _ _ _ us hl => match us, hl with | [_, _], _ => rfl⟩
  have D_minimal_up_to : Dn P w K mg base 3 "minimal_up_to" ["rows", "ends", "most"] spMinUp := ⟨_, _, ok_minUp F_minimal_up_to T D_classes_of D_in_order, gl _ (by decide +kernel), F_minimal_up_to.kp, FunD.bindsN (ps := ["rows", "ends", "most"]) F_minimal_up_to fun _ _ _ _ _ _ us hl => match us, hl with | [_, _, _], _ => rfl⟩
  have D_arity_of : Dn P w K mg base 1 "arity_of" ["machine"] spArity := ⟨_, _, ok_arity F_arity_of T, gl _ (by decide +kernel), F_arity_of.kp, FunD.bindsN (ps := ["machine"]) F_arity_of fun _ _ _ _ _ _ us hl => match us, hl with | [_], _ => rfl⟩
  have D_joined_freely : Dn P w K mg base 3 "joined_freely" ["one", "other", "keep"] (spJoinF K) := ⟨_, _, ok_joinF F_joined_freely T D_verdict_of D_numbered (con0 ("SURELY_IN", -1125899906842624) (by simp)) (con0 ("SURELY_OUT", -1099511627776) (by simp)) (con0 ("BETWEEN", -35184372088832) (by simp)), gl _ (by decide +kernel), F_joined_freely.kp, FunD.bindsN (ps := ["one", "other", "keep"]) F_joined_freely fun _ _ _ _ _ _ us hl => match us, hl with | [_, _, _], _ => rfl⟩
  have D_digit_sums : Dn P w K mg base 1 "digit_sums" ["factors"] spSums := ⟨_, _, ok_sums F_digit_sums T, gl _ (by decide +kernel), F_digit_sums.kp, FunD.bindsN (ps := ["factors"]) F_digit_sums fun _ _ _ _ _ _ us hl => match us, hl with | [_], _ => rfl⟩
  have D_explored_freely : DnC P w K mg base 3 "explored_freely" ["first", "letters", "follow", "is_end"] (fun z => z.1.C) (spExplF P w K mg base) := ⟨_, _, fun z => ok_explF F_explored_freely T z, gl _ (by decide +kernel), F_explored_freely.kp, FunD.bindsN (ps := ["first", "letters", "follow", "is_end"]) F_explored_freely fun _ _ _ _ _ _ us hl => match us, hl with | [_, _, _, _], _ => rfl⟩
  have D_explored : DnC P w K mg base 4 "explored" ["first", "letters", "follow", "is_end"] (fun z => z.1.C) (spExpl P w K mg base) := ⟨_, _, fun z => ok_expl F_explored T D_explored_freely D_minimal z, gl _ (by decide +kernel), F_explored.kp, FunD.bindsN (ps := ["first", "letters", "follow", "is_end"]) F_explored fun _ _ _ _ _ _ us hl => match us, hl with | [_, _, _, _], _ => rfl⟩
  have D_between_machine : Dn P w K mg base 5 "between_machine" ["factors", "least", "most"] (spBetwM [(T1, nm_between_machine), (T2, nm_least_machine), (T3, nm_rest_machine), (T4, nm_one_rest_machine)]) := ⟨_, _, ok_betwM F_between_machine k1 ML1 T D_digit_sums D_explored, gl _ (by decide +kernel), F_between_machine.kp, FunD.bindsN (ps := ["factors", "least", "most"]) F_between_machine fun _ _ _ _ _ _ us hl => match us, hl with | [_, _, _], _ => rfl⟩
  have D_least_machine : Dn P w K mg base 5 "least_machine" ["factors", "number"] (spLeastM [(T1, nm_between_machine), (T2, nm_least_machine), (T3, nm_rest_machine), (T4, nm_one_rest_machine)]) := ⟨_, _, ok_leastM F_least_machine k2 ML2 T D_digit_sums D_explored, gl _ (by decide +kernel), F_least_machine.kp, FunD.bindsN (ps := ["factors", "number"]) F_least_machine fun _ _ _ _ _ _ us hl => match us, hl with | [_, _], _ => rfl⟩
  have D_one_rest_machine : Dn P w K mg base 4 "one_rest_machine" ["factors", "m", "rest"] (spOneM [(T1, nm_between_machine), (T2, nm_least_machine), (T3, nm_rest_machine), (T4, nm_one_rest_machine)]) := ⟨_, _, ok_oneM F_one_rest_machine k4 ML4 T D_digit_sums D_explored_freely, gl _ (by decide +kernel), F_one_rest_machine.kp, FunD.bindsN (ps := ["factors", "m", "rest"]) F_one_rest_machine fun _ _ _ _ _ _ us hl => match us, hl with | [_, _, _], _ => rfl⟩
  have D_shortest : Dn P w K mg base 1 "shortest" ["wanted"] spShort := ⟨_, _, ok_shortest F_shortest T, gl _ (by decide +kernel), F_shortest.kp, FunD.bindsN (ps := ["wanted"]) F_shortest fun _ _ _ _ _ _ us hl => match us, hl with | [_], _ => rfl⟩
  have D_rest_machine : Dn P w K mg base 5 "rest_machine" ["factors", "m", "rests"] (spRestM [(T1, nm_between_machine), (T2, nm_least_machine), (T3, nm_rest_machine), (T4, nm_one_rest_machine)]) := ⟨_, _, ok_restM F_rest_machine k3 ML3 T gcd D_digit_sums D_shortest D_explored_freely D_one_rest_machine, gl _ (by decide +kernel), F_rest_machine.kp, FunD.bindsN (ps := ["factors", "m", "rests"]) F_rest_machine fun _ _ _ _ _ _ us hl => match us, hl with | [_, _, _], _ => rfl⟩
  have D_condition_machine : Dn P w K mg base 6 "condition_machine" ["condition"] (spCondM [(T1, nm_between_machine), (T2, nm_least_machine), (T3, nm_rest_machine), (T4, nm_one_rest_machine)]) := ⟨_, _, ok_condM F_condition_machine T D_between_machine D_least_machine D_rest_machine, gl _ (by decide +kernel), F_condition_machine.kp, FunD.bindsN (ps := ["condition"]) F_condition_machine fun _ _ _ _ _ _ us hl => match us, hl with | [_], _ => rfl⟩
  have D_empty_machine : Dn P w K mg base 1 "empty_machine" ["arity"] (spOneMach false) := ⟨_, _, ok_emptyM F_empty_machine T, gl _ (by decide +kernel), F_empty_machine.kp, FunD.bindsN (ps := ["arity"]) F_empty_machine fun _ _ _ _ _ _ us hl => match us, hl with | [_], _ => rfl⟩
  have D_full_machine : Dn P w K mg base 1 "full_machine" ["arity"] (spOneMach true) := ⟨_, _, ok_fullM F_full_machine T, gl _ (by decide +kernel), F_full_machine.kp, FunD.bindsN (ps := ["arity"]) F_full_machine fun _ _ _ _ _ _ us hl => match us, hl with | [_], _ => rfl⟩
  have D_case_machines : Dn P w K mg base 7 "case_machines" ["arity", "cases"] (spCaseM [(T1, nm_between_machine), (T2, nm_least_machine), (T3, nm_rest_machine), (T4, nm_one_rest_machine)]) := ⟨_, _, ok_caseM F_case_machines T D_condition_machine D_empty_machine D_full_machine, gl _ (by decide +kernel), F_case_machines.kp, FunD.bindsN (ps := ["arity", "cases"]) F_case_machines fun _ _ _ _ _ _ us hl => match us, hl with | [_, _], _ => rfl⟩
  have D_joined : Dn P w K mg base 4 "joined" ["one", "other", "keep"] (spJoined K) := ⟨_, _, ok_joined F_joined T D_joined_freely D_minimal, gl _ (by decide +kernel), F_joined.kp, FunD.bindsN (ps := ["one", "other", "keep"]) F_joined fun _ _ _ _ _ _ us hl => match us, hl with | [_, _, _], _ => rfl⟩
  have D_in_all : Dn P w K mg base 5 "in_all" ["machines"] spInAll := ⟨_, _, ok_inAll F_in_all T gB hKB D_joined, gl _ (by decide +kernel), F_in_all.kp, FunD.bindsN (ps := ["machines"]) F_in_all fun _ _ _ _ _ _ us hl => match us, hl with | [_], _ => rfl⟩
  have D_joined_at_last : Dn P w K mg base 5 "joined_at_last" ["machines", "keep"] (spJAtL K) := ⟨_, _, ok_jAtL F_joined_at_last T D_joined D_joined_freely, gl _ (by decide +kernel), F_joined_at_last.kp, FunD.bindsN (ps := ["machines", "keep"]) F_joined_at_last fun _ _ _ _ _ _ us hl => match us, hl with | [_, _], _ => rfl⟩
  have D_is_laborious : Dn P w K mg base 1 "is_laborious" ["cases"] spLab := ⟨_, _, ok_lab F_is_laborious T (con0 ("LABORIOUS", 1000000) (by simp)), gl _ (by decide +kernel), F_is_laborious.kp, FunD.bindsN (ps := ["cases"]) F_is_laborious fun _ _ _ _ _ _ us hl => match us, hl with | [_], _ => rfl⟩
  have D_machine_of_cases : Dn P w K mg base 6 "machine_of_cases" ["arity", "cases"] spMOfC := ⟨_, _, ok_mOfC F_machine_of_cases T gB hKB gE hKE D_empty_machine D_full_machine D_joined_at_last D_in_all, gl _ (by decide +kernel), F_machine_of_cases.kp, FunD.bindsN (ps := ["arity", "cases"]) F_machine_of_cases fun _ _ _ _ _ _ us hl => match us, hl with | [_, _], _ => rfl⟩
  have D_is_integer : Dn P w K mg base 1 "is_integer" ["value"] (spIsInt K) := ⟨_, _, ok_isInt F_is_integer T, gl _ (by decide +kernel), F_is_integer.kp, FunD.bindsN (ps := ["value"]) F_is_integer fun _ _ _ _ _ _ us hl => match us, hl with | [_], _ => rfl⟩
  have D_is_natural : Dn P w K mg base 2 "is_natural" ["value"] (spIsNat K) := ⟨_, _, ok_isNat F_is_natural T D_is_integer, gl _ (by decide +kernel), F_is_natural.kp, FunD.bindsN (ps := ["value"]) F_is_natural fun _ _ _ _ _ _ us hl => match us, hl with | [_], _ => rfl⟩
  have D_is_row : Dn P w K mg base 3 "is_row" ["value", "arity"] (spIsRow K) := ⟨_, _, ok_isRow F_is_row T D_is_natural, gl _ (by decide +kernel), F_is_row.kp, FunD.bindsN (ps := ["value", "arity"]) F_is_row fun _ _ _ _ _ _ us hl => match us, hl with | [_, _], _ => rfl⟩
  have D_state_behind : Dn P w K mg base 1 "state_behind" ["rows", "numbers"] (spBehind K) := ⟨_, _, ok_behind F_state_behind T, gl _ (by decide +kernel), F_state_behind.kp, FunD.bindsN (ps := ["rows", "numbers"]) F_state_behind fun _ _ _ _ _ _ us hl => match us, hl with | [_, _], _ => rfl⟩
  have MD : MkD P w K mg base := mk_D D T FDigitSet__init__ D_arity_of
  have D_least_told_set : Dn P w K mg base 4 "least_told_set" ["rows", "ends"] (spLeastSet K) := ⟨_, _, ok_leastSet F_least_told_set T D MD (con0 ("MOST_STATES", 400) (by simp)) D_minimal_up_to, gl _ (by decide +kernel), F_least_told_set.kp, FunD.bindsN (ps := ["rows", "ends"]) F_least_told_set fun _ _ _ _ _ _ us hl => match us, hl with | [_, _], _ => rfl⟩
  have D_digit_set : Dn P w K mg base 8 "digit_set" ["arity", "cases"] (spDigitSet K [(T1, nm_between_machine), (T2, nm_least_machine), (T3, nm_rest_machine), (T4, nm_one_rest_machine)]) := ⟨_, _, ok_digitSet F_digit_set T D_case_machines D_is_laborious D_machine_of_cases D_least_told_set, gl _ (by decide +kernel), F_digit_set.kp, FunD.bindsN (ps := ["arity", "cases"]) F_digit_set fun _ _ _ _ _ _ us hl => match us, hl with | [_, _], _ => rfl⟩
  have D_is_none : Dn P w K mg base 1 "is_none" ["a"] (spNone K false) := ⟨_, _, ok_isNone F_is_none T D, gl _ (by decide +kernel), F_is_none.kp, FunD.bindsN (ps := ["a"]) F_is_none fun _ _ _ _ _ _ us hl => match us, hl with | [_], _ => rfl⟩
  have D_is_all : Dn P w K mg base 1 "is_all" ["a"] (spNone K true) := ⟨_, _, ok_isAll F_is_all T D, gl _ (by decide +kernel), F_is_all.kp, FunD.bindsN (ps := ["a"]) F_is_all fun _ _ _ _ _ _ us hl => match us, hl with | [_], _ => rfl⟩
  have OI := om_in (P := P) (w := w) (base := base) D T FDigitSet__contains__ (me ("DigitSet", "__contains__") (by decide +kernel)) D_is_natural D_is_row D_state_behind
  have OE := om_eqS (P := P) (w := w) (base := base) D T FDigitSet__eq__ (me ("DigitSet", "__eq__") (by decide +kernel))
  have D__law_pen : Dn P w K mg base 1 "_law_pen" ["_law_script"] (spPen K) := ⟨_, _, ok_pen F__law_pen T.toBt, gl _ (by decide +kernel), F__law_pen.kp, FunD.bindsN (ps := ["_law_script"]) F__law_pen fun _ _ _ _ _ _ us hl => match us, hl with | [_], _ => rfl⟩
  have D__law_draw : Dn P w K mg base 1 "_law_draw" ["_law_pen_here", "_law_many"] spDrawC := ⟨_, _, ok_drawC F__law_draw T.toBt, gl _ (by decide +kernel), F__law_draw.kp, FunD.bindsN (ps := ["_law_pen_here", "_law_many"]) F__law_draw fun _ _ _ _ _ _ us hl => match us, hl with | [_, _], _ => rfl⟩
  have D__law_pick : Dn P w K mg base 2 "_law_pick" ["_law_pen_here", "_law_some"] spPickC := ⟨_, _, ok_pickC F__law_pick T.toBt D__law_draw, gl _ (by decide +kernel), F__law_pick.kp, FunD.bindsN (ps := ["_law_pen_here", "_law_some"]) F__law_pick fun _ _ _ _ _ _ us hl => match us, hl with | [_, _], _ => rfl⟩
  have D__law_big : Dn P w K mg base 2 "_law_big" ["_law_pen_here", "_law_many"] spBig := ⟨_, _, ok_big F__law_big T D__law_draw, gl _ (by decide +kernel), F__law_big.kp, FunD.bindsN (ps := ["_law_pen_here", "_law_many"]) F__law_big fun _ _ _ _ _ _ us hl => match us, hl with | [_, _], _ => rfl⟩
  have D__law_condition : Dn P w K mg base 2 "_law_condition" ["_law_pen_here", "_law_arity"] spCondD := ⟨_, _, ok_condD F__law_condition T D__law_draw, gl _ (by decide +kernel), F__law_condition.kp, FunD.bindsN (ps := ["_law_pen_here", "_law_arity"]) F__law_condition fun _ _ _ _ _ _ us hl => match us, hl with | [_, _], _ => rfl⟩
  have D__law_cases : Dn P w K mg base 3 "_law_cases" ["_law_pen_here", "_law_arity"] spCasesD := ⟨_, _, ok_casesD F__law_cases T (pick_of D__law_pick) D__law_condition, gl _ (by decide +kernel), F__law_cases.kp, FunD.bindsN (ps := ["_law_pen_here", "_law_arity"]) F__law_cases fun _ _ _ _ _ _ us hl => match us, hl with | [_, _], _ => rfl⟩
  have D__law_holds : Dn P w K mg base 1 "_law_holds" ["_law_condition_here", "_law_row_here"] (spHolds K) := ⟨_, _, ok_holds F__law_holds T, gl _ (by decide +kernel), F__law_holds.kp, FunD.bindsN (ps := ["_law_condition_here", "_law_row_here"]) F__law_holds fun _ _ _ _ _ _ us hl => match us, hl with | [_, _], _ => rfl⟩
  have D__law_in_cases : Dn P w K mg base 2 "_law_in_cases" ["_law_cases_here", "_law_row_here"] (spInCases K) := ⟨_, _, ok_inCases F__law_in_cases T D__law_holds, gl _ (by decide +kernel), F__law_in_cases.kp, FunD.bindsN (ps := ["_law_cases_here", "_law_row_here"]) F__law_in_cases fun _ _ _ _ _ _ us hl => match us, hl with | [_, _], _ => rfl⟩
  have D__law_number : Dn P w K mg base 3 "_law_number" ["_law_pen_here"] spNumD := ⟨_, _, ok_numD F__law_number T D__law_draw D__law_pick D__law_big, gl _ (by decide +kernel), F__law_number.kp, FunD.bindsN (ps := ["_law_pen_here"]) F__law_number fun _ _ _ _ _ _ us hl => match us, hl with | [_], _ => rfl⟩
  have D__law_row : Dn P w K mg base 4 "_law_row" ["_law_pen_here", "_law_arity"] spRowD := ⟨_, _, ok_rowD F__law_row T D__law_number, gl _ (by decide +kernel), F__law_row.kp, FunD.bindsN (ps := ["_law_pen_here", "_law_arity"]) F__law_row fun _ _ _ _ _ _ us hl => match us, hl with | [_, _], _ => rfl⟩
  have D__law_rows : Dn P w K mg base 1 "_law_rows" ["_law_arity", "_law_most"] (spRows K) := ⟨_, _, ok_rowsD F__law_rows T, gl _ (by decide +kernel), F__law_rows.kp, FunD.bindsN (ps := ["_law_arity", "_law_most"]) F__law_rows fun _ _ _ _ _ _ us hl => match us, hl with | [_, _], _ => rfl⟩
  have D__law_none_in : Dn P w K mg base 5 "_law_none_in" ["_law_pen_here", "_law_s", "_law_arity"] (spNoneIn K) := ⟨_, _, ok_noneIn F__law_none_in T OI, gl _ (by decide +kernel), F__law_none_in.kp, FunD.bindsN (ps := ["_law_pen_here", "_law_s", "_law_arity"]) F__law_none_in fun _ _ _ _ _ _ us hl => match us, hl with | [_, _, _], _ => rfl⟩
  exact ok_law F_law T D N OI OE D__law_pen D__law_draw D__law_cases D__law_row D__law_rows D__law_none_in D__law_in_cases D_digit_set D_is_none D_is_all
/-- the end: what the head has laid is handed on -/
theorem ends {l : PySem.W.OpenLaw} {m j : Nat} {q : Program} {free : List Str} {A : (Str → Option Value) → Heap → Prop} {B : World → Heap → Prop} {d : DefRec} {arg : Str}
    (e1 : l.most = some m) (e2 : m ≤ sizeLine) (e3 : d.params.defaults = []) (room : Room j callerA)
    (given : ∀ (w : World) (g : Str → Option Value) (f : Addr) (h : Heap), B w h → (∃ lo mean b, Top q lo mean g b h) → g d.name = some (.ref f) → ∃ K : PySem.W.Frag, K.In h ∧ LamX.LawAtS l w K CX0 j m arg g f h) :
    PySem.W.WalkO q free A B l.row.toRowW d [] (fun f vs => PySem.call f vs) := by
  refine Att.attach_callB e1 e3 fun w _ t g b f _ _ _ _ a us is gr y _ _ _ gf ho hi len bits gs => ?_
  have Z := gr.T
  obtain ⟨K, kin, fd, cs, sp, a1, a2, a3, a4, a5, a6⟩ := given w g f _ y ⟨_, _, _, Z⟩ gf
  exact LamX.law_callTs kin Z.g Z.b Z.builtins Z.nolimit gs a1 a2 a3 Z.bmain ho hi (Nat.le_trans len e2) room a6 a4 (fun H z1 z2 => a5 H a is len bits z1 z2) fun H e u z => z
end K01
open PySem PySem.W PySem.Calls PyProof.Rows
theorem PySem.Challenge.cw_loopsize_k01_sets_told_by_cases_holds : PySem.Challenge.rw_loopsize_k01_sets_told_by_cases.Holds := by
  w_on; o_law
  refine HandSHeadRun.head_imp (r := OpenLaw.row PySem.Challenge.rw_loopsize_k01_sets_told_by_cases) (q := view (OpenLaw.row PySem.Challenge.rw_loopsize_k01_sets_told_by_cases).prog [0, 26, 27, 28, 29, 77]) (H := K01.hk) (ob := K01.ob) (M := 60000) (loose := K01.names) (d := HandSHeadRun.topDef (OpenLaw.row PySem.Challenge.rw_loopsize_k01_sets_told_by_cases).prog 77) (kwd := []) K01.ob_eq
    K01.run (by kernel_rfl) (by kernel_rfl) (by kernel_rfl) (by rfl) (by first | assumption | decide +kernel) (by decide +kernel) ⟨rfl, rfl, rfl, rfl, rfl, by decide +kernel⟩ ?hw ?hc
  case hw => w_witness2
  case hc =>
    refine K01.ends (l := PySem.Challenge.rw_loopsize_k01_sets_told_by_cases) (m := 63) (j := 9) (arg := "_law_script") rfl (by decide) (by kernel_rfl) ⟨rfl, by decide, by decide⟩ fun w mg fa h Y Z n => ?_
    obtain ⟨K, KX, c⟩ := Y
    have n2 : mg ("law" : PySem.Str) = some (.ref fa) := by
      have e : (HandSHeadRun.topDef (OpenLaw.row PySem.Challenge.rw_loopsize_k01_sets_told_by_cases).prog 77).name = ("law" : PySem.Str) := by kernel_rfl
      rw [← e]
      exact n
    obtain ⟨fd, cs, TS, b1, b2, b3, b4, b5, b6⟩ := K01.facts (P := (PySem.Challenge.rw_loopsize_k01_sets_told_by_cases).prog) (w := w) KX Z n2 c
    exact ⟨K, KX, fd, cs, K01.spLaw K TS, b1, b2, b3, b4, fun H a ns hl _ hT hS => ⟨a, ns, rfl, hS, hl, b5 H hT, fun _ => rfl⟩, b6⟩
