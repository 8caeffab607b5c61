import PyProof.Rows.All
import Wide.All
import OpenK.AllK
import Wide.FinOn
import KE.KExcIs
import HandS.ForMost
import HandS.Exc
import HandS.ExcInit
import HandS.ExcOwn
import HandS.ExcValue
import HandS.ExcField
import HandS.ExcIs
import HandS.IsInst
import HandS.WordsExc
import HandS.Defaults
import HandS.HeadHook1
import HandS.HeadHook2
import HandS.Head0
import HandS.Head1
import HandS.Head2
import HandS.HeadEnd
import KE.KOpsOwn
import PyProof.ListMulRight
import PyProof.FactsAll.int_3
import PyProof.FactsAll.int_5
import HandS.Star
import HandS.Gcd
import HandS.Wide
import HandS.SlotsOwn
import PyProof.InstNe
import HandS.Iter
import HandS.MakeKwOnly
import HandS.Style
import KE.KxLen
import HandS.Head3
import PySem.Challenge.RW_loopsize_k22_turns_of_loops
set_option Elab.async false
set_option linter.all false
set_option maxRecDepth 100000
set_option maxHeartbeats 4000000
namespace Z
open PySem PySem.Spec PyProof.Rows L2
section
variable {X : Cx} {e : Expr} {es : List Expr} {te : TE} {ta : TA} {p pos : Pos}
/-- C(e, ..), an own exception class with its own __init__, as a value -/
def tMkE (C : Addr) (sp : Sp) (ta : TA) : TE := fun σ H Q => ta σ H fun vs H1 => vs.length ≤ 1000 ∧ ∀ a, H1 a = none →
  sp (.ref a :: vs) (upd H1 a (exo a C none)) (fun v H2 => v = .non ∧ Q (.ref a) H2) (fun _ _ _ => False)
theorem pe_mkE {CX : CXT} {x : Str} {C fI : Addr} {k : Nat} {fd : FuncData} {ps : List Str} {sp : Sp} (T : OexC X.K C) (iC : PySem.W.findIn X.K (.ref C) "__init__" = some (some (.ref fI))) (tI : PySem.W.typeIn X.K (.ref fI) = some (.type "function"))
    (F1 : FnOk X.prog X.w X.K X.mg X.base CX k fI fd ps sp) (hr : Room (k + 1) X.A) (hb : Binds X.K fd ps []) (hx : Passes CX X (fun _ _ _ => False)) (hg : Gl X x) (hm : X.mg x = some (.ref C)) (ha : PA X (e :: es) ta)
    (hdb : (x == ("__debug__" : Str)) = false := by decide) (he : starEach (e :: es) X.env = (false, eval e X.env) :: starEach es X.env := by rfl) (hpl : (backTo pos (starEach es X.env)).any (·.1) = false := by rfl) :
    PE X (.Call (.Name x p) (e :: es) [] pos) (tMkE C sp ta) := by
  refine ⟨fun pins s σ H Q I h => ?_⟩
  obtain ⟨nm, q, N, bs, bm, sn, sub, ab, col, dd, k0, k1, k2, k3, k5, hC, hbm⟩ := T.cls
  refine wpAny_Call_Name_kw (ld_glob I hg hm ?_ hdb)
  refine PySem.W.callWith_K (h₀ := X.base) I.ok.mod.kin T.kC (thn (ha.run pos pins s σ H _ I h) fun us s1 ⟨vs, H1, I1, r1, hz, q1⟩ => ⟨I1.kIn, ?_⟩) he hpl
  show wpAny _ _ (call (.ref C) us) _ _ _
  obtain ⟨hp, g, dr, tk, os⟩ := s1
  have hsz : hp.objs.size ≤ hp.objs.size + 1 := Nat.le_succ _
  have hn : H1 (hp.objs.size + 1) = none := I1.hok.fresh hsz
  have hq := q1 (hp.objs.size + 1) hn
  have kk : ∀ b o, hp.get? b = some o → ((hp.push (PySem.W.kdv_tup us)).push (PySem.HandSPX.excO C hp.objs.size)).get? b = some o := fun b o e => Heap.get?_push_of_some _ (Heap.get?_push_of_some _ e)
  have hget : ((hp.push (PySem.W.kdv_tup us)).push (PySem.HandSPX.excO C hp.objs.size)).get? (hp.objs.size + 1) = some (PySem.HandSPX.excO C hp.objs.size) := by heap_get
  have I2 : Inv X pins σ (upd H1 (hp.objs.size + 1) (exo (hp.objs.size + 1) C none)) ⟨(hp.push (PySem.W.kdv_tup us)).push (PySem.HandSPX.excO C hp.objs.size), g, dr, tk, os⟩ :=
    I1.laid (t' := tk) (a := hp.objs.size + 1) (o := exo (hp.objs.size + 1) C none) (h' := (hp.push (PySem.W.kdv_tup us)).push (PySem.HandSPX.excO C hp.objs.size)) kk hsz (exo_ok hget)
  have r2 : Vals (V.ref (hp.objs.size + 1) :: vs) (Value.ref (hp.objs.size + 1) :: us) := .cons rfl r1
  have hl : (Value.ref (hp.objs.size + 1) :: us ++ []).length = ps.length := by
    have e := r2.length
    rw [F1.len _ _ _ _ hq] at e
    rw [List.append_nil]
    exact e.symm
  have hb2 : BindsTo ⟨(hp.push (PySem.W.kdv_tup us)).push (PySem.HandSPX.excO C hp.objs.size), g, dr, tk, os⟩ fd ⟨Value.ref (hp.objs.size + 1) :: us, []⟩ (ps.zip (Value.ref (hp.objs.size + 1) :: us)) := by
    have z := hb ⟨(hp.push (PySem.W.kdv_tup us)).push (PySem.HandSPX.excO C hp.objs.size), g, dr, tk, os⟩ (Value.ref (hp.objs.size + 1) :: us) I2.kIn hl
    rw [List.append_nil] at z
    exact z
  have hus : us.length ≤ sizeLine := by
    rw [← Paired.length r1, sizeLine_eq]
    omega
  refine wpAny_call (PySem.HandSPX.call_own F.excBase_ValueError (fun Y => PySem.HandSPX.refsVE_contains Y bm hbm) (I1.kIn _ _ hC) (PySem.W.looks_findIn I1.kIn iC) (fun self => PySem.W.bind_fn I1.kIn self tI) hus
    (codeAny_mono (F1.run _ X.stack _ _ ⟨Value.ref (hp.objs.size + 1) :: us, []⟩ (Value.ref (hp.objs.size + 1) :: us) _ _ (fun _ _ _ => False) (hr.make C us []) (I2.env0.make C us []) hb2 r2 hq) fun r s' hq' => ?_))
  cases r with
  | error er => exact hx pins σ _ _ er s' I2 hq'
  | ok fl =>
    cases fl with
    | ret u =>
      obtain ⟨v, H', I3, rv, ev, q3⟩ := I2.after hq'
      subst ev
      exact ⟨rv, ⟨V.ref (hp.objs.size + 1), H', I3, rfl, q3⟩⟩
    | next => exact False.elim hq'
    | brk => exact False.elim hq'
    | cont => exact False.elim hq'
/-- X(), an own exception class without own __init__, as a value -/
theorem pe_exc0 {C : Addr} {bmB : List Value} {B newId initId : String} {x : Str} (F : ExcBaseFacts B newId initId bmB) (q : PySem.W.excIn X.K C bmB newId = true) (gC : X.mg x = some (.ref C)) (kC : PySem.W.keepIn X.K (.ref C) = true) (hg : Gl X x)
    (hdb : (x == ("__debug__" : Str)) = false := by decide) :
    PE X (.Call (.Name x p) [] [] pos) (fun σ H Q => ∀ a, H a = none → Q (.ref a) (upd H a (ExO (.ref C) a))) := by
  refine ⟨fun pins s σ H Q I h => ?_⟩
  refine wpAny_Call_Name_kw (ld_glob I hg gC ?_ hdb)
  refine PySem.W.callWith_K0 I.kIn kC ?_
  show wpAny _ _ (call (.ref C) []) _ _ _
  obtain ⟨bm, N, nm, qn, bs, hdct, sn, sub, ab, col, dd, k0, k1, k2, k3, k5, mN, hC, hN, hni, T⟩ := exc_obj I.kIn q
  refine wpAny_call_exc_subT F T hC hN hni (fun h' a hm => ?_) (by show 0 ≤ sizeLine; exact Nat.zero_le _)
  have hn : H a = none := I.hok.gone hm.new
  obtain ⟨t, ht, _, _⟩ := hm.there
  exact ⟨.ref a, upd H a (ExO (.ref C) a), I.laidN hm.keeps hm.new hn (exO_ok ht ⟨rfl, rfl⟩ rfl rfl rfl (show 4 < 6 by decide)), rfl, h a hn⟩
/-- e.f, e an exception object with fields, in ordinary code -/
def tXg (K : PySem.W.Frag) (f : Str) (te : TE) : TE := fun σ H Q => te σ H fun x H1 => ∃ (a C d : Addr) (fs : List (Str × V)) (v : V), x = .ref a ∧ H1 a = some (exo a C (some d)) ∧ H1 d = some (exd d fs) ∧ XfC K C ∧
  PySem.W.findIn K (.ref C) f = some none ∧ fs.lookup f = some v ∧ Q v H1
theorem pe_xg {n : Str} (he : PE X e te) (hb : attributeBase e n X.env (eval e X.env) = eval e X.env := by rfl) :
    PE X (.Attribute e n pos) (tXg X.K n te) := by
  refine ⟨fun pins s σ H Q I h => ?_⟩
  refine attr_of hb (thn (he.run pins s σ H _ I h) fun u s1 hh => ?_)
  obtain ⟨x, H1, I1, rx, a, C, d, fs, v, ex, ea, ed, T, hno, l, q⟩ := hh
  subst ex
  obtain rfl : u = Value.ref a := rx
  obtain ⟨t1, ho⟩ := exo_at I1.hok ea
  obtain ⟨mA, hns, hr⟩ := exd_at I1.hok ed
  obtain ⟨od, hod, hl⟩ := lookIn_ns hns
  obtain ⟨u, hu, ru⟩ := RelO.some_of (v := v) (o := mA n) (by rw [← l]; exact hr n)
  have J : PySem.W.InstAt s1.heap a { cls := .ref C, dict := some d, data := .fields #[.ref t1, .none, .none, .none, .bool false, .none] } C (some od) := ⟨ho, rfl, rfl, hod⟩
  exact HandSPX.exc_get I1.kIn J T.ga T.gg T.exC (PySem.W.findObj_own T.hdC hno rfl (by rw [hl, hu])) (handed_of ru) ⟨v, H1, I1.tok _, ru, q⟩
/-- an exception object of the class at C stands at a -/
def ExAt (H : Hp) (a C : Addr) : Prop := (∃ d fs, H a = some (exo a C (some d)) ∧ H d = some (exd d fs)) ∨ H a = some (ExO (.ref C) a)
def rIsX (K : PySem.W.Frag) : List V → Hp → VK → Prop := fun xs H Q => ∃ (a C : Addr) (c : V) (u : Value) (b : Bool), xs = [.ref a, c] ∧ ClsV c u ∧ ExAt H a C ∧ ExcC K C ∧ PySem.W.kitOne K (.ref C) u = some b ∧ Q (.bl b) H
theorem call_isX : CallR X (.builtin "isinstance") (rIsX X.K) := by
  intro pins s σ H xs us Q I r h
  obtain ⟨a, C, c, u, b, rfl, k, hat, T, e, q⟩ := h
  obtain ⟨u1, u2, rfl, r1, r2⟩ := vals2 r
  cases (show u1 = Value.ref a from r1)
  have e2 := k.eq r2
  subst e2
  have hcl : (PySem.W.clsIn X.K C).isSome = true := by
    obtain ⟨cd, hc, _⟩ := PySem.W.any_some T.hd
    rw [hc]
    rfl
  obtain ⟨ox, od, J⟩ : ∃ ox od, PySem.W.InstAt s.heap a ox C od := by
    rcases hat with ⟨d, fs, ea, ed⟩ | ea
    · obtain ⟨t1, ho⟩ := exo_at I.hok ea
      obtain ⟨mA, hns, hr⟩ := exd_at I.hok ed
      obtain ⟨od, hod, hl⟩ := lookIn_ns hns
      exact ⟨{ cls := .ref C, dict := some d, data := .fields #[.ref t1, .none, .none, .none, .bool false, .none] }, some od, ⟨ho, rfl, rfl, hod⟩⟩
    · have x : ObjOk X.prog X.w H s.heap a (ExO (.ref C) a) := I.hok a _ ea
      obtain ⟨⟨oe, vs, ho, hz, hd, _⟩, _⟩ := x
      obtain ⟨oc, od, odt, osl⟩ := oe
      obtain ⟨h1, h2⟩ := hz
      dsimp only at h1 h2 hd
      subst h1 h2 hd
      exact ⟨_, none, ⟨ho, rfl, rfl, trivial⟩⟩
  exact PySem.W.kia_one (PySem.W.kitx_exc hcl T.hg T.hk T.hs T.ha T.hn T.ht T.hm) I.kIn J e (fun z => nomatch z) fun tk => ⟨.bl b, H, I.tok tk, rfl, q⟩
end
end Z

set_option maxHeartbeats 4000000
namespace Z
open PySem PySem.Spec PyProof.Rows L2
/-! ### facts of the head -/
abbrev FaK : Type := PySem.W.Frag → Bool
def obsX (fa : List FaK) (fn : List He.DefD) (K : PySem.W.Frag) : He.AlD := ((fa.all fun f => f K) && fn.all fun d => d.ok K, fn.map fun d => He.fnW K d.at_)
def SaysX (fa : List FaK) (fn : List He.DefD) (K : PySem.W.Frag) : Prop := obsX fa fn K = He.valD fn
def obsXG (n : Nat) (fa : List FaK) (fn : List He.DefD) (g : Addr → Option Obj) : He.AlD := obsX fa fn (He.frG g (He.asD g n))
def hookX (n : Nat) (fa : List FaK) (fn : List He.DefD) : PySem.W.Hook where
  α := He.AlD
  obs := fun s => obsXG n fa fn s.heap.get?
  val := fun _ => He.valD fn
  says := fun _ h => ∃ K : PySem.W.Frag, K.In h ∧ SaysX fa fn K
  of := fun _ _ e => ⟨_, He.frG_in, e⟩
  keeps := fun _ _ _ ⟨K, hK, c⟩ k => ⟨K, PySem.W.Frag.In.keeps hK k, c⟩
theorem obsXG_eq {n : Nat} {fa : List FaK} {fn : List He.DefD} {g : Addr → Option Obj} {s : Shared} (h : ∀ a, g a = s.heap.get? a) : obsXG n fa fn g = (hookX n fa fn).obs s := by
  have e : g = s.heap.get? := funext h
  rw [e] <;> rfl
section
variable {fa : List FaK} {fn : List He.DefD} {K : PySem.W.Frag}
theorem SaysX.fact (c : SaysX fa fn K) (i : Nat) {f : FaK} (h : fa[i]? = some f := by rfl) : f K = true := by
  have c1 := (He.ba (show ((fa.all fun f => f K) && fn.all fun d => d.ok K) = true from congrArg (fun z : He.AlD => z.1) c)).1
  exact List.all_eq_true.mp c1 f (List.mem_of_getElem? h)
theorem SaysX.def_ (c : SaysX fa fn K) (i : Nat) {d : He.DefD} (h : fn[i]? = some d := by rfl) : ∃ fd, FunD K d.name d.qual d.params d.body d.scope (d.dvs K) (d.kws K) (He.fAd K d.at_) fd := by
  have c2 := (He.ba (show ((fa.all fun f => f K) && fn.all fun d => d.ok K) = true from congrArg (fun z : He.AlD => z.1) c)).2
  have e : fn.map (fun d => He.fnW K d.at_) = fn.map He.DefD.val := congrArg (fun z : He.AlD => z.2) c
  have e2 : (fn.map fun d => He.fnW K d.at_)[i]? = (fn.map He.DefD.val)[i]? := by rw [e]
  rw [List.getElem?_map, List.getElem?_map, h] at e2
  exact He.DefD.funD (Option.some.inj e2) (List.all_eq_true.mp c2 d (List.mem_of_getElem? h))
end
/-! ### exception classes -/
def oexB (K : PySem.W.Frag) (C : Addr) : Bool := match K.lookup C with
  | some ⟨.type t, _, .cls cd, sl⟩ => decide (t = "type") && (match cd.mro, sl.toList with
    | .ref C' :: bm, [_, _, _, _, some (.builtin n), _] => decide (C' = C) && (decide (n = "ValueError.__new__") && (!cd.hasDel && (cd.hasDict && PySem.HandSPX.refsVE bm)))
    | _, _ => false)
  | _ => false
theorem oexB_ok {K : PySem.W.Frag} {C : Addr} (q : oexB K C = true) : ∃ nm q N bs bm sn sub ab col dd k0 k1 k2 k3 k5, K.lookup C = some (excClassObj nm q C N bs bm true sn sub ab col dd k0 k1 k2 k3 k5 "ValueError.__new__") ∧ PySem.HandSPX.refsVE bm = true := by
  unfold oexB at q
  split at q
  · rename_i t dd cd sl ho
    split at q
    · rename_i C' bm k0 k1 k2 k3 n k5 hm hs
      obtain ⟨q0, q⟩ := He.ba q
      obtain ⟨q1, q⟩ := He.ba q
      obtain ⟨q2, q⟩ := He.ba q
      obtain ⟨q3, q⟩ := He.ba q
      obtain ⟨q4, q5⟩ := He.ba q
      have e0 := of_decide_eq_true q0
      have e1 := of_decide_eq_true q1
      have e2 := of_decide_eq_true q2
      obtain ⟨nm, bs, mro, ns, qn, hd, sn, sub, ab, col, del⟩ := cd
      dsimp only at hm q3 q4
      have e3 : del = false := by
        cases del
        · rfl
        · cases q3
      subst hm e3 q4
      have hsl : sl = #[k0, k1, k2, k3, some (.builtin n), k5] := by
        obtain ⟨l⟩ := sl
        simp only at hs
        rw [hs]
      subst hsl
      rw [e0, e1, e2] at ho
      exact ⟨nm, qn, ns, bs, bm, sn, sub, ab, col, dd, k0, k1, k2, k3, k5, ho, q5⟩
    · obtain ⟨_, q⟩ := He.ba q
      cases q
  · cases q
/-- all that is asked of an exception class -/
def exkB (K : PySem.W.Frag) (C : Addr) : Bool :=
  He.eqO (PySem.W.findIn K (.ref C) "__setattr__") (some (some (.builtin "object.__setattr__"))) &&
  (decide (PySem.W.subIn K (.ref C) (.type "BaseException") = some true) &&
  (decide (PySem.W.typeIn K (.ref C) = some (.type "type")) &&
  (PySem.W.keepIn K (.ref C) &&
  (He.eqO (PySem.W.findIn K (.ref C) "__getattribute__") (some (some (.builtin "BaseException.__getattribute__"))) &&
  (He.eqO (PySem.W.findIn K (.ref C) "__getattr__") (some none) &&
  (PySem.W.hasDictIn K C &&
  (He.eqO (PySem.W.findIn K (.ref C) "__class__") (some (some (.builtin "object.__class__"))) &&
  (He.eqO (PySem.W.specialIn K (.builtin "object.__class__") "__get__") (some (some (.builtin "getset_descriptor.__get__"))) &&
  (decide (PySem.W.takesIn K (.builtin "object.__class__") = some true) &&
  decide (PySem.W.mroIn K C (.type "object") = some true))))))))))
structure Exk (K : PySem.W.Frag) (C : Addr) : Prop where
  sa : PySem.W.findIn K (.ref C) "__setattr__" = some (some (.builtin "object.__setattr__"))
  exC : PySem.W.subIn K (.ref C) (.type "BaseException") = some true
  tyC : PySem.W.typeIn K (.ref C) = some (.type "type")
  kC : PySem.W.keepIn K (.ref C) = true
  xf : XfC K C
  ec : ExcC K C
theorem exkB_ok {K : PySem.W.Frag} {C : Addr} (q : exkB K C = true) : Exk K C := by
  unfold exkB at q
  obtain ⟨h1, q⟩ := He.ba q
  obtain ⟨h2, q⟩ := He.ba q
  obtain ⟨h3, q⟩ := He.ba q
  obtain ⟨h4, q⟩ := He.ba q
  obtain ⟨h5, q⟩ := He.ba q
  obtain ⟨h6, q⟩ := He.ba q
  obtain ⟨h7, q⟩ := He.ba q
  obtain ⟨h8, q⟩ := He.ba q
  obtain ⟨h9, q⟩ := He.ba q
  obtain ⟨h10, h11⟩ := He.ba q
  have e2 := of_decide_eq_true h2
  exact ⟨He.eqO_ok h1, e2, of_decide_eq_true h3, h4, ⟨He.eqO_ok h5, He.eqO_ok h6, e2, h7⟩, ⟨He.eqO_ok h5, He.eqO_ok h6, e2, h7, He.eqO_ok h8, He.eqO_ok h9, of_decide_eq_true h10, of_decide_eq_true h11⟩⟩
theorem oex_of {K : PySem.W.Frag} {C : Addr} (q : oexB K C = true) (e : Exk K C) : OexC K C := ⟨oexB_ok q, e.sa, e.exC, e.tyC, e.kC⟩
/-! ### a global def that may be called -/
def Dn (P : Program) (w : World) (K : PySem.W.Frag) (mg : Str → Option Value) (base : Heap) (j : Nat) (x : Str) (ps : List Str) (sp : Sp) : Prop :=
  ∃ (f : Addr) (fd : FuncData), FnOk P w K mg base CX0 j f fd ps sp ∧ mg x = some (.ref f) ∧ PySem.W.keepIn K (.ref f) = true ∧ Binds K fd ps []
section
variable {X : Cx} {e : Expr} {es : List Expr} {t : TA} {p pos : Pos}
theorem pe_dn {k j : Nat} {x : Str} {ps : List Str} {sp : Sp} (D : Dn X.prog X.w X.K X.mg X.base j x ps sp) (hr : Room k X.A) (ha : PA X (e :: es) t) (hjk : j ≤ k := by decide) (hg : Gl X x := by rfl)
    (hdb : (x == ("__debug__" : Str)) = false := by decide) (he : starEach (e :: es) X.env = (false, eval e X.env) :: starEach es X.env := by rfl) (hpl : (backTo pos (starEach es X.env)).any (·.1) = false := by rfl) :
    PE X (.Call (.Name x p) (e :: es) [] pos) (tCall sp [] E0 t) := by
  obtain ⟨f, fd, G, hm, hk, hb⟩ := D
  exact pe_call G (hr.mono hjk) hg hm hk hb .nil pass0 ha hdb he hpl
end
end Z

set_option maxHeartbeats 4000000
namespace Z
open PySem PySem.Spec PyProof.Rows L2
/-! ### the pen -/
def penK (c : Addr) (a l : Int) : List (Key × V) := [(.inr "cells", .ref c), (.inr "at", .int a), (.inr "left", .int l)]
theorem key_ne {x y : Str} (h : ¬ x = y) : ¬ ((Sum.inr x : Key) = Sum.inr y) := fun q => h (Sum.inr.inj q)
theorem ca_ : ¬ (("cells" : Str) = "at") := by decide +kernel
theorem cl_ : ¬ (("cells" : Str) = "left") := by decide +kernel
theorem al_ : ¬ (("at" : Str) = "left") := by decide +kernel
theorem penK_cells (c : Addr) (a l : Int) : valV (penK c a l) (Sum.inr "cells" : Key) = some (.ref c) := valV_pos rfl
theorem penK_at (c : Addr) (a l : Int) : valV (penK c a l) (Sum.inr "at" : Key) = some (.int a) := by
  unfold penK
  rw [valV_neg (key_ne ca_)]
  exact valV_pos rfl
theorem penK_left (c : Addr) (a l : Int) : valV (penK c a l) (Sum.inr "left" : Key) = some (.int l) := by
  unfold penK
  rw [valV_neg (key_ne cl_), valV_neg (key_ne al_)]
  exact valV_pos rfl
theorem penK_put_at (c : Addr) (a l b : Int) : putK (penK c a l) (Sum.inr "at" : Key) (.int b) = penK c b l := by
  unfold putK
  rw [valV_any, penK_at, if_pos (show (some (V.int a)).isSome = true from rfl)]
  unfold penK
  simp only [List.map_cons, List.map_nil, if_neg (key_ne ca_), if_neg (key_ne (fun q => al_ q.symm)), if_true]
theorem penK_put_left (c : Addr) (a l b : Int) : putK (penK c a l) (Sum.inr "left" : Key) (.int b) = penK c a b := by
  unfold putK
  rw [valV_any, penK_left, if_pos (show (some (V.int l)).isSome = true from rfl)]
  unfold penK
  simp only [List.map_cons, List.map_nil, if_neg (key_ne cl_), if_neg (key_ne al_), if_true]
/-- a pen stands at p; at most t numbers were drawn -/
def Pen (H : Hp) (p : Addr) (t : Nat) : Prop := ∃ (c : Addr) (ns : List Int) (a l : Int), H p = some (.dK (penK c a l)) ∧ H c = some (.lst (ns.map V.int)) ∧ ns.length ≤ 63 ∧ 0 ≤ a ∧ a ≤ (t : Int) ∧ 0 ≤ l
/-- all but p is as it was -/
def Keep (p : Addr) (H H' : Hp) : Prop := ∀ a o, a ≠ p → H a = some o → H' a = some o
theorem Keep.refl (p : Addr) (H : Hp) : Keep p H H := fun _ _ _ h => h
theorem Keep.trans {p : Addr} {H H1 H2 : Hp} (a : Keep p H H1) (b : Keep p H1 H2) : Keep p H H2 := fun c o n h => b c o n (a c o n h)
theorem Keep.of {p : Addr} {H H' : Hp} (s : Same H H') : Keep p H H' := fun a o _ h => s a o h
theorem Keep.upd {p : Addr} {H H1 : Hp} (o : HO) (k : Keep p H H1) : Keep p H (upd H1 p o) := fun a u n h => by
  rw [upd_ne n]
  exact k a u n h
theorem Keep.new {p l : Addr} {H H1 : Hp} (o : HO) (k : Keep p H H1) (hl : H1 l = none) : Keep p H (L2.upd H1 l o) := fun a u n h => by
  have q := k a u n h
  rw [upd_ne (ne_of_none q hl)]
  exact q
theorem Same.new {l : Addr} {H H1 : Hp} (o : HO) (k : Same H H1) (hl : H1 l = none) : Same H (upd H1 l o) := fun a u h => by
  have q := k a u h
  rw [upd_ne (ne_of_none q hl)]
  exact q
theorem Pen.mono {H : Hp} {p : Addr} {t t' : Nat} (h : Pen H p t) (e : t ≤ t') : Pen H p t' := by
  obtain ⟨c, ns, a, l, h1, h2, h3, h4, h5, h6⟩ := h
  exact ⟨c, ns, a, l, h1, h2, h3, h4, by omega, h6⟩
/-- a pen is not touched where all stands -/
theorem Pen.same {H H' : Hp} {p : Addr} {t : Nat} (h : Pen H p t) (s : Same H H') : Pen H' p t := by
  obtain ⟨c, ns, a, l, h1, h2, h3⟩ := h
  exact ⟨c, ns, a, l, s _ _ h1, s _ _ h2, h3⟩
/-- what is no dict is not the pen -/
theorem Pen.ne {H : Hp} {p a : Addr} {t : Nat} {o : HO} (h : Pen H p t) (e : H a = some o) (d : ∀ kvs, o ≠ .dK kvs) : a ≠ p := by
  obtain ⟨c, ns, x, l, h1, _⟩ := h
  exact ne_of e h1 (d _)
def spPen (K : PySem.W.Frag) : Sp := fun vs H Q _ => ∃ (a : Addr) (ns : List Int), vs = [.ref a] ∧ SqL K H a (ns.map V.int) ∧ ns.length ≤ 63 ∧ ∀ H' p, Same H H' → H p = none → Pen H' p 0 → Q (.ref p) H'
def spDraw : Sp := fun vs H Q _ => ∃ (p : Addr) (m : Int) (t : Nat), vs = [.ref p, .int m] ∧ 0 < m ∧ m < 1073741824 ∧ t < 1000000000 ∧ Pen H p t ∧ ∀ H' (d : Int), 0 ≤ d → d < m → Pen H' p (t + 1) → Keep p H H' → Q (.int d) H'
def spPick : Sp := fun vs H Q _ => ∃ (p l : Addr) (xs : List V) (t : Nat), vs = [.ref p, .ref l] ∧ H l = some (.lst xs) ∧ 0 < xs.length ∧ xs.length < 1000 ∧ t < 1000000000 ∧ Pen H p t ∧
  ∀ H' (i : Nat) (v : V), xs[i]? = some v → Pen H' p (t + 1) → Keep p H H' → Q v H'
/-! ### small readings -/
theorem fmod_range {x m : Int} (h : 0 < m) : 0 ≤ x.fmod m ∧ x.fmod m < m := by
  rw [Int.fmod_eq_emod_of_nonneg _ (Int.le_of_lt h)]
  exact ⟨Int.emod_nonneg _ (by omega), Int.emod_lt_of_pos _ h⟩
theorem fdiv_nn {x m : Int} (hx : 0 ≤ x) (h : 0 < m) : 0 ≤ x.fdiv m := by
  rw [Int.fdiv_eq_ediv_of_nonneg _ (Int.le_of_lt h)]
  exact Int.ediv_nonneg hx (Int.le_of_lt h)
theorem mul_okf {x m : Int} (h : 0 < m) (hm : m ≤ 2147483648) : -(2 ^ 64) < x.fmod m ∧ x.fmod m < 2 ^ 64 := by
  have := fmod_range (x := x) h
  omega
theorem mul_okf1 {x m : Int} (h : 0 < m) (hm : m ≤ 2147483648) : -(2 ^ 64) < x.fmod m + 1 ∧ x.fmod m + 1 < 2 ^ 64 := by
  have := fmod_range (x := x) h
  omega
section
variable {H : Hp} {p c : Addr} {a l b : Int}
theorem pen_left (h : H p = some (.dK (penK c a l))) : DGet H p (.str "left") (some (.int l)) := by
  have z := DGet.k (k := (Sum.inr "left" : Key)) h
  rw [penK_left] at z
  exact z
theorem pen_at (h : H p = some (.dK (penK c a l))) : DGet H p (.str "at") (some (.int a)) := by
  have z := DGet.k (k := (Sum.inr "at" : Key)) h
  rw [penK_at] at z
  exact z
theorem pen_cells (h : H p = some (.dK (penK c a l))) : DGet H p (.str "cells") (some (.ref c)) := by
  have z := DGet.k (k := (Sum.inr "cells" : Key)) h
  rw [penK_cells] at z
  exact z
theorem pen_put_left (b : Int) (h : H p = some (.dK (penK c a l))) : DPut H p (.str "left") (.int b) (upd H p (.dK (penK c a b))) := by
  have z := DPut.k (k := (Sum.inr "left" : Key)) (v := .int b) h (show 3 < sizeLine by decide)
  rw [penK_put_left] at z
  exact z
theorem pen_put_at (b : Int) (h : H p = some (.dK (penK c a l))) : DPut H p (.str "at") (.int b) (upd H p (.dK (penK c b l))) := by
  have z := DPut.k (k := (Sum.inr "at" : Key)) (v := .int b) h (show 3 < sizeLine by decide)
  rw [penK_put_at] at z
  exact z
end
theorem lst_ne_dK {xs : List V} {kvs : List (Key × V)} : HO.lst xs ≠ .dK kvs := fun z => by cases z
/-- data: a list of ints -/
theorem dpAll_ints {K : PySem.W.Frag} {H : Hp} : ∀ ns : List Int, DpAll K H (ns.map V.int) (ns.map PyData.int)
  | [] => .nil
  | _ :: ns => .cons (.int _) (dpAll_ints ns)
theorem canLay_ints : ∀ ns : List Int, PyData.canLayAll0 (ns.map PyData.int) = true
  | [] => by simp [PyData.canLayAll0]
  | _ :: ns => by simp [PyData.canLayAll0, PyData.canLay0, canLay_ints ns]
theorem depth_ints : ∀ ns : List Int, PyData.depthAll (ns.map PyData.int) = 0
  | [] => by simp [PyData.depthAll]
  | _ :: ns => by simp [PyData.depthAll, PyData.depth, depth_ints ns]
theorem shaped_ints (ns : List Int) : SeqAt.shaped (.list (ns.map PyData.int)) = true := by
  simp [SeqAt.shaped, PyData.canLay0, canLay_ints, PyData.depth, depth_ints]
theorem shaped_nil : SeqAt.shaped (.list []) = true := shaped_ints []
theorem eqv_ints_nil (ns : List Int) : PyData.eqv (.list (ns.map PyData.int)) (.list []) = ns.isEmpty := by
  cases ns <;> simp [PyData.eqv, PyData.eqvAll]
theorem get_ints {ns : List Int} {i : Nat} (h : i < ns.length) : (ns.map V.int)[i]? = some (.int (ns[i]'h)) := by
  rw [List.getElem?_map, List.getElem?_eq_getElem h]
  rfl
end Z

set_option maxHeartbeats 4000000
namespace Z
open PySem PySem.W PySem.Calls PyProof.Rows
/-! ### operators of own classes -/
section
/-- an int's own operator does not take an instance -/
theorem mul_no (a : Int) (t : Tok) (l C dx : Addr) :
    Meets (Builtin.«int.__mul__» ⟨[.int a t, .ref l], []⟩) (fun _ R s => s.heap.get? l = some (instObj C dx) ∧ R (.ok (.ret Value.notImplemented)) s) :=
  .of_wp fun prog w A R s h => by
    obtain ⟨hp, g, d, tk, os⟩ := s
    obtain ⟨hl, h⟩ := h
    wp_walk
    exact ⟨_, rfl, h⟩
theorem add_no (a : Int) (t : Tok) (l C dx : Addr) :
    Meets (Builtin.«int.__add__» ⟨[.int a t, .ref l], []⟩) (fun _ R s => s.heap.get? l = some (instObj C dx) ∧ R (.ok (.ret Value.notImplemented)) s) :=
  .of_wp fun prog w A R s h => by
    obtain ⟨hp, g, d, tk, os⟩ := s
    obtain ⟨hl, h⟩ := h
    wp_walk
    exact ⟨_, rfl, h⟩
theorem sub_no (a : Int) (t : Tok) (l C dx : Addr) :
    Meets (Builtin.«int.__sub__» ⟨[.int a t, .ref l], []⟩) (fun _ R s => s.heap.get? l = some (instObj C dx) ∧ R (.ok (.ret Value.notImplemented)) s) :=
  .of_wp fun prog w A R s h => by
    obtain ⟨hp, g, d, tk, os⟩ := s
    obtain ⟨hl, h⟩ := h
    wp_walk
    exact ⟨_, rfl, h⟩
end
section
variable {prog : Program} {w : World} {A : Around} {E : Value → Shared → Prop} {s : Shared} {K : Frag} {x y C f : Addr} {ox oy : Obj} {od oe : Option Obj}
theorem own_binop {op : Operator} {Q : Value → Shared → Prop} (X : K.In s.heap) (I : InstAt s.heap x ox C od) (J : InstAt s.heap y oy C oe) (hc : selfFirst K C = true)
    (hs : findIn K (.ref C) (PySem.dunder op.info.2) = some (some (.ref f))) (hf : isFn K (.ref f) = true)
    (h : wpAny (model prog w) A (call (.ref f) [.ref x, .ref y]) (PySem.W.CmpBack Q) E s) : wpAny (model prog w) A (binaryOp op (.ref x) (.ref y)) Q E s := by
  obtain ⟨cd, rest, hcd, hm⟩ := ksp_first hc
  rcases hi : op.info with ⟨sym, nm'⟩
  rw [hi] at hs
  dsimp only at hs
  have one := ksp_try X I hs hf h
  obtain ⟨hh, g, d, tt, os⟩ := s
  have L1 : Looks (model prog w) hh (typeOf (.ref x)) (.ref C) := I.type
  have L2 : Looks (model prog w) hh (typeOf (.ref y)) (.ref C) := J.type
  have L3 : Looks (model prog w) hh (fillsNumberSlot (.ref C) nm') true := fills_K X hcd hm hs
  have heq : (Value.ref C == Value.ref C) = true := beq_self_eq_true _
  simp only [binaryOp, hi]
  refine wpAny_holding (wpAny_bind ?_)
  unfold binaryOp1
  refine wpAny_bind (L1.at (wpAny_bind (L2.at (wpAny_bind (L3.at ?_)))))
  simp only [heq, if_true]
  ksp_lk
  refine wpAny_mono one (fun r s' hr' => ?_) fun _ _ e => e
  obtain ⟨v, rfl, hq⟩ := hr'
  ksp_lk
  exact hq
theorem refl_binop {op : Operator} {a : Int} {t : Tok} {id : String} {Q : Value → Shared → Prop} (X : K.In s.heap) (I : InstAt s.heap x ox C od) (hc : selfFirst K C = true)
    (hs0 : findIn K (.ref C) (PySem.dunder op.info.2) = some (some (.ref y)))
    (hs : findIn K (.ref C) (dunderR op.info.2) = some (some (.ref f))) (hf : isFn K (.ref f) = true) (hsub : subIn K (.ref C) (.type "int") = some false)
    (hfill : fillsNumberSlot (.type "int") op.info.2 = pure true) (hl : Slot "int" (dunder op.info.2) id)
    (hno : wpAny (model prog w) A (call (.builtin id) [.int a t, .ref x]) (fun v s' => v = .notImplemented ∧ s' = s) E s)
    (h : wpAny (model prog w) A (call (.ref f) [.ref x, .int a t]) (PySem.W.CmpBack Q) E s) : wpAny (model prog w) A (binaryOp op (.int a t) (.ref x)) Q E s := by
  obtain ⟨cd, rest, hcd, hm⟩ := ksp_first hc
  rcases hi : op.info with ⟨sym, nm'⟩
  rw [hi] at hs hs0 hfill hl
  dsimp only at hs hs0 hfill hl
  have one := ksp_try X I hs hf h
  have two : wpAny (model prog w) A (tryMethod (.int a t) (dunder nm') (.ref x)) (fun r s' => r = none ∧ s' = s) E s :=
    wpAny_tryMethod_declines (s := s) (T := "int") rfl hl (wpAny_mono hno (fun v s' z => ⟨z.1, rfl, z.2⟩) fun _ _ e => e)
  obtain ⟨hh, g, d, tt, os⟩ := s
  have L1 : Looks (model prog w) hh (typeOf (.int a t)) (.type "int") := Looks.of_pure rfl
  have L2 : Looks (model prog w) hh (typeOf (.ref x)) (.ref C) := I.type
  have L3 : Looks (model prog w) hh (fillsNumberSlot (.ref C) nm') true := fills_K X hcd hm hs0
  have L4 : Looks (model prog w) hh (fillsNumberSlot (.type "int") nm') true := Looks.of_pure hfill
  have L5 : Looks (model prog w) hh (isSubtype (.ref C) (.type "int")) false := looks_subIn X hsub
  have L6 : Looks (model prog w) hh (numberSlotInPython (.type "int") nm') false := Looks.of_pure rfl
  have hne : (Value.type "int" == Value.ref C) = false := Bool.eq_false_iff.mpr fun q => by cases beq_iff_eq.mp q
  simp only [binaryOp, hi]
  refine wpAny_holding (wpAny_bind ?_)
  unfold binaryOp1
  refine wpAny_bind (L1.at (wpAny_bind (L2.at (wpAny_bind (L4.at ?_)))))
  simp only [hne, Bool.false_eq_true, if_false]
  ksp_lk
  refine wpAny_mono two (fun r s' hr' => ?_) fun _ _ e => e
  obtain ⟨rfl, rfl⟩ := hr'
  ksp_lk
  refine wpAny_mono one (fun r s' hr' => ?_) fun _ _ e => e
  obtain ⟨v, rfl, hq⟩ := hr'
  ksp_lk
  exact hq
end
end Z

set_option maxHeartbeats 4000000
namespace Z
open PySem PySem.Spec PyProof.Rows L2
section
variable {prog : Program} {w : World} {A : Around} {E : Value → Shared → Prop} {s : Shared} {x C dx : Addr}
theorem mul_no_call (a : Int) (t : Tok) (h : s.heap.get? x = some (PySem.W.instObj C dx)) : wpAny (model prog w) A (call (.builtin "int.__mul__") [.int a t, .ref x]) (fun v s' => v = .notImplemented ∧ s' = s) E s :=
  call_meets PySem.F.slot_int_mul (s := s) rfl PySem.F.entry_int_mul (PySem.F.args_int_mul_2 _ _) (mul_no a t x C dx) ⟨h, rfl, rfl⟩
end
/-- what is asked of a class whose instances stand beside ints -/
def opiB (K : PySem.W.Frag) (C : Addr) (nm : String) : Bool :=
  PySem.W.selfFirst K C && ((match PySem.W.findIn K (.ref C) (dunderR nm) with
    | some none => true
    | some (some (.ref _)) => true
    | _ => false) && ((PySem.W.findIn K (.type "int") (dunder nm)).isSome && ((PySem.W.findIn K (.type "int") (dunderR nm)).isSome && (decide (PySem.W.subIn K (.type "int") (.ref C) = some false) && decide (PySem.W.subIn K (.ref C) (.type "int") = some false)))))
structure OpI (K : PySem.W.Frag) (C : Addr) (nm : String) : Prop where
  sf : PySem.W.selfFirst K C = true
  rr : ∃ rc, PySem.W.findIn K (.ref C) (dunderR nm) = some rc ∧ (rc = none ∨ ∃ g : Addr, rc = some (.ref g))
  i1 : ∃ fo, PySem.W.findIn K (.type "int") (dunder nm) = some fo
  i2 : ∃ fo, PySem.W.findIn K (.type "int") (dunderR nm) = some fo
  s1 : PySem.W.subIn K (.type "int") (.ref C) = some false
  s2 : PySem.W.subIn K (.ref C) (.type "int") = some false
theorem opiB_ok {K : PySem.W.Frag} {C : Addr} {nm : String} (h : opiB K C nm = true) : OpI K C nm := by
  obtain ⟨h1, h⟩ := He.ba h
  obtain ⟨h2, h⟩ := He.ba h
  obtain ⟨h3, h⟩ := He.ba h
  obtain ⟨h4, h⟩ := He.ba h
  obtain ⟨h5, h6⟩ := He.ba h
  refine ⟨h1, ?_, Option.isSome_iff_exists.mp h3, Option.isSome_iff_exists.mp h4, of_decide_eq_true h5, of_decide_eq_true h6⟩
  cases e : PySem.W.findIn K (.ref C) (dunderR nm) with
  | none =>
    rw [e] at h2
    cases h2
  | some o =>
    rw [e] at h2
    cases o with
    | none => exact ⟨_, rfl, .inl rfl⟩
    | some v =>
      cases v with
      | ref g => exact ⟨_, rfl, .inr ⟨g, rfl⟩⟩
      | _ => cases h2
/-- a method that the class itself has, and its promise -/
def Om (P : Program) (w : World) (K : PySem.W.Frag) (mg : Str → Option Value) (base : Heap) (C : Addr) (k : Nat) (name : Str) (sp : Sp) : Prop :=
  ∃ (f : Addr) (fd : FuncData) (ps : List Str), FnOk P w K mg base CX0 k f fd ps sp ∧ PySem.W.findIn K (.ref C) name = some (some (.ref f)) ∧ PySem.W.isFn K (.ref f) = true ∧ Binds K fd ps []
theorem not_ni {v : V} {u : Value} (r : RelV v u) : u ≠ .notImplemented := by
  intro e
  subst e
  cases v with
  | non => cases r
  | bl b => cases r
  | int i => obtain ⟨_, r⟩ := r; cases r
  | str x => obtain ⟨_, r⟩ := r; cases r
  | byt b => obtain ⟨_, r⟩ := r; cases r
  | flt b => obtain ⟨_, r⟩ := r; cases r
  | ref a => cases r
  | ty n => cases r
section
variable {X : Cx}
theorem back_of {pins : List (Addr × Obj)} {σ : L2.St} {Q : VK} {u : Value} {s' : Shared} (h : EP X pins σ Q u s') : PySem.W.CmpBack (EP X pins σ Q) u s' := by
  obtain ⟨v, H', I, r, q⟩ := h
  have n := not_ni r
  cases u <;> first | exact absurd rfl n | exact ⟨v, H', I, r, q⟩
theorem om_run {pins : List (Addr × Obj)} {σ : L2.St} {H : Hp} {s : Shared} {Q : VK} {us : List Value} {vs : List V} {k : Nat} {f : Addr} {fd : FuncData} {ps : List Str} {sp : Sp} (F : FnOk X.prog X.w X.K X.mg X.base CX0 k f fd ps sp) (hb : Binds X.K fd ps []) (hr : Room k X.A)
    (I : L2.Inv X pins σ H s) (r : Vals vs us) (h : sp vs H Q E0) : wpAny (model X.prog X.w) X.A (call (.ref f) us) (PySem.W.CmpBack (EP X pins σ Q)) X.xe s := by
  have h2 : sp (vs ++ []) H Q E0 := by
    rw [List.append_nil]
    exact h
  exact wpAny_mono (run_fn F hr hb .nil pass0 I r h2) (fun u s' q => back_of q) fun _ _ z => z
theorem ins_at {pins : List (Addr × Obj)} {σ : L2.St} {H : Hp} {s : Shared} {a C dx : Addr} {fs : List (Str × V)} (I : L2.Inv X pins σ H s) (e : H a = some (.ins C dx fs)) : ∃ od, PySem.W.InstAt s.heap a (PySem.W.instObj C dx) C (some od) := by
  obtain ⟨mA, O, _⟩ := ins_get I.hok e
  obtain ⟨od, J, _⟩ := O.look
  exact ⟨od, J⟩
/-- x op y, both of the class C -/
def rOwn (C : Addr) (sp : Sp) : R2 := fun x y H Q => ∃ (a b dx dy : Addr) (fs gs : List (Str × V)), x = .ref a ∧ y = .ref b ∧ H a = some (.ins C dx fs) ∧ H b = some (.ins C dy gs) ∧ sp [x, y] H Q E0
theorem op_own {op : Operator} {C : Addr} {k j : Nat} {sp : Sp} (O : Om X.prog X.w X.K X.mg X.base C j (dunder op.info.2) sp) (T : OpI X.K C op.info.2) (hr : Room k X.A) (hjk : j ≤ k := by decide) : OpR X (binaryOp op) (rOwn C sp) := by
  intro pins s σ H x y v u Q I rx ry h
  obtain ⟨a, b, dx, dy, fs, gs, rfl, rfl, ha, hb, q⟩ := h
  obtain ⟨f, fd, ps, F, hs, hf, hbd⟩ := O
  have rr : Vals [V.ref a, V.ref b] [v, u] := .cons rx (.cons ry .nil)
  cases (show v = Value.ref a from rx)
  cases (show u = Value.ref b from ry)
  obtain ⟨od, J⟩ := ins_at I ha
  obtain ⟨oe, J'⟩ := ins_at I hb
  exact own_binop I.kIn J J' T.sf hs hf (om_run F hbd (hr.mono hjk) I rr q)
/-- x op k, x of the class C, k an int -/
def rOwnI (C : Addr) (sp : Sp) : R2 := fun x y H Q => ∃ (a dx : Addr) (fs : List (Str × V)) (i : Int), x = .ref a ∧ y = .int i ∧ H a = some (.ins C dx fs) ∧ sp [x, y] H Q E0
theorem op_ownI {op : Operator} {C : Addr} {k j : Nat} {sp : Sp} (O : Om X.prog X.w X.K X.mg X.base C j (dunder op.info.2) sp) (T : OpI X.K C op.info.2) (hr : Room k X.A) (hjk : j ≤ k := by decide) : OpR X (binaryOp op) (rOwnI C sp) := by
  intro pins s σ H x y v u Q I rx ry h
  obtain ⟨a, dx, fs, i, rfl, rfl, ha, q⟩ := h
  obtain ⟨f, fd, ps, F, hs, hf, hbd⟩ := O
  have rr : Vals [V.ref a, V.int i] [v, u] := .cons rx (.cons ry .nil)
  cases (show v = Value.ref a from rx)
  obtain ⟨t, rfl⟩ := (show ∃ t, u = Value.int i t from ry)
  obtain ⟨od, J⟩ := ins_at I ha
  obtain ⟨m, hF⟩ := I.fr
  obtain ⟨rc, hrc, hp⟩ := T.rr
  obtain ⟨fo, h1⟩ := T.i1
  obtain ⟨ro, h2⟩ := T.i2
  exact PySem.W.ksp_binT hF I.ok.mod.kin J rfl T.sf hs hf hrc hp h1 h2 T.s1 (om_run F hbd (hr.mono hjk) I rr q)
/-- k * x, k an int, x of the class C -/
def rRefl (C : Addr) (sp : Sp) : R2 := fun x y H Q => ∃ (a dx : Addr) (fs : List (Str × V)) (i : Int), x = .int i ∧ y = .ref a ∧ H a = some (.ins C dx fs) ∧ sp [y, x] H Q E0
theorem op_reflMul {C : Addr} {k j j0 : Nat} {sp sp0 : Sp} (O0 : Om X.prog X.w X.K X.mg X.base C j0 (dunder "mul") sp0) (O : Om X.prog X.w X.K X.mg X.base C j (dunderR "mul") sp) (T : OpI X.K C "mul") (hr : Room k X.A) (hjk : j ≤ k := by decide) : OpR X (binaryOp .Mult) (rRefl C sp) := by
  intro pins s σ H x y v u Q I rx ry h
  obtain ⟨a, dx, fs, i, rfl, rfl, ha, q⟩ := h
  obtain ⟨f, fd, ps, F, hs, hf, hbd⟩ := O
  obtain ⟨f0, _, _, _, hs0, _, _⟩ := O0
  have rr : Vals [V.ref a, V.int i] [u, v] := .cons ry (.cons rx .nil)
  obtain ⟨t, rfl⟩ := (show ∃ t, v = Value.int i t from rx)
  cases (show u = Value.ref a from ry)
  obtain ⟨od, J⟩ := ins_at I ha
  exact refl_binop (op := .Mult) I.kIn J T.sf hs0 hs hf T.s2 PySem.F.fills_int_mul PySem.F.slot_int_mul (mul_no_call i t J.1) (om_run F hbd (hr.mono hjk) I rr q)
/-- x == y, x of the class C with its own == -/
def rEqOwn (K : PySem.W.Frag) (C : Addr) (sp : Sp) : R2 := fun x y H Q => ∃ (a dx : Addr) (fs : List (Str × V)) (t : Value), x = .ref a ∧ H a = some (.ins C dx fs) ∧ TyOf K H y t ∧ PySem.W.notFirst K C t = true ∧ sp [x, y] H Q E0
theorem ty_looks {pins : List (Addr × Obj)} {σ : L2.St} {H : Hp} {s : Shared} {y : V} {u t : Value} (I : L2.Inv X pins σ H s) (ry : RelV y u) (ty : TyOf X.K H y t) : PySem.W.Looks (model X.prog X.w) s.heap (typeOf u) t := by
  obtain ⟨P, Z, p, _⟩ := kit_of I ry (.base ty)
  exact Z.ty _ _ I.kIn p
theorem op_eqOwn {C : Addr} {k j : Nat} {sp : Sp} (O : Om X.prog X.w X.K X.mg X.base C j "__eq__" sp) (hr : Room k X.A) (hjk : j ≤ k := by decide) : OpR X (compareOp .Eq) (rEqOwn X.K C sp) := by
  intro pins s σ H x y v u Q I rx ry h
  obtain ⟨a, dx, fs, t, rfl, ha, ty, hn, q⟩ := h
  obtain ⟨f, fd, ps, F, hs, hf, hbd⟩ := O
  have rr : Vals [V.ref a, y] [v, u] := .cons rx (.cons ry .nil)
  cases (show v = Value.ref a from rx)
  obtain ⟨od, J⟩ := ins_at I ha
  obtain ⟨m, hF⟩ := I.fr
  show wpAny (model X.prog X.w) X.A (richCompare .Eq (.ref a) u) (EP X pins σ Q) X.xe s
  exact PySem.W.cmp_K (op := .Eq) hr.units0 hF I.ok.mod.kin J (ty_looks I ry ty) hn hs hf (om_run F hbd (hr.mono hjk) I rr q)
end
end Z

set_option maxHeartbeats 4000000
namespace Z
open PySem PySem.Spec PyProof.Rows L2
section
variable {prog : Program} {w : World} {A : Around} {E : Value → Shared → Prop} {s : Shared} {x C dx f : Addr} {K : PySem.W.Frag} {ox : Obj} {od : Option Obj} {b tb : Value}
theorem add_no_call (a : Int) (t : Tok) (h : s.heap.get? x = some (PySem.W.instObj C dx)) : wpAny (model prog w) A (call (.builtin "int.__add__") [.int a t, .ref x]) (fun v s' => v = .notImplemented ∧ s' = s) E s :=
  call_meets PySem.F.slot_int_add (s := s) rfl PySem.F.entry_int_add (PySem.F.args_int_add_2 _ _) (add_no a t x C dx) ⟨h, rfl, rfl⟩
theorem sub_no_call (a : Int) (t : Tok) (h : s.heap.get? x = some (PySem.W.instObj C dx)) : wpAny (model prog w) A (call (.builtin "int.__sub__") [.int a t, .ref x]) (fun v s' => v = .notImplemented ∧ s' = s) E s :=
  call_meets PySem.F.slot_int_sub (s := s) rfl PySem.F.entry_int_sub (PySem.F.args_int_sub_2 _ _) (sub_no a t x C dx) ⟨h, rfl, rfl⟩
/-- object's own !=, on an instance whose class has its own == -/
theorem objNe_entry (hu : A.units < cLine) (X : K.In s.heap) (I : PySem.W.InstAt s.heap x ox C od) (hs : PySem.W.findIn K (.ref C) "__eq__" = some (some (.ref f))) (hf : PySem.W.isFn K (.ref f) = true) {Q : Fin → Shared → Prop}
    (hcall : wpAny (model prog w) A (call (.ref f) [.ref x, b]) (fun v s' => ∃ c, v = .bool c ∧ Q (.done (.ret (.bool (!c)))) s') E s) :
    wpAny (model prog w) A (Builtin.«object.__ne__» ⟨[.ref x, b], []⟩) Q E s := by
  unfold Builtin.«object.__ne__»
  repeat (first
    | with_reducible refine wpAny_cRoomFor hu ?_
    | (refine wpAny_bind (m := callSpecialIfBound? (.ref x) (Str.ofString "__eq__") [b])
        (PySem.W.ifBound_K X I hs hf (wpAny_mono hcall (fun r s' hr => by
          obtain ⟨c, rfl, hq⟩ := hr
          repeat (first | exact hq | exact wpAny_pure hq | exact wpAny_truthy_bool hq | (refine wpAny_bind (m := truthy (.bool _)) (wpAny_truthy_bool ?_)) | wp_step)) fun _ _ e => e)))
    | wp_step)
theorem ifBound_slot {M : Model} {name : Str} {id : String} {args : List Value} {Q : Option Value → Shared → Prop} (S : PySem.Slot "object" name id) (X : K.In s.heap) (I : PySem.W.InstAt s.heap x ox C od) (hs : PySem.W.findIn K (.ref C) name = some (some (.builtin id)))
    (h : wpAny M A (call (.builtin id) (.ref x :: args)) (fun v => Q (some v)) E s) : wpAny M A (callSpecialIfBound? (.ref x) name args) Q E s := by
  simp only [callSpecialIfBound?, bindSpecialIfBound?]
  refine wpAny_holding (wpAny_bind (wpAny_bind (wpAny_bind (I.type.here ((PySem.W.looks_findIn X hs).here ?_)))))
  simp only [S.bind]
  refine wpAny_bind (wpAny_askSetting (wpAny_ite ?_))
  have fin : wpAny M A (call (.builtin id) ([.ref x] ++ args) >>= fun v => pure (some v)) Q E s := wpAny_bind (wpAny_mono h (fun v s' h' => wpAny_pure h') fun _ _ h' => h')
  split
  · exact wpAny_bind (wpAny_pure (wpAny_pure fin))
  · exact wpAny_tryCatch (wpAny_bind (wpAny_pure (wpAny_pure fin)))
theorem ne_K {Q : Value → Shared → Prop} (hu : A.units + 1 < cLine) (X : K.In s.heap) (I : PySem.W.InstAt s.heap x ox C od) (hb : PySem.W.Looks (model prog w) s.heap (typeOf b) tb) (hn : PySem.W.notFirst K C tb = true)
    (hN : PySem.W.findIn K (.ref C) "__ne__" = some (some (.builtin "object.__ne__"))) (hO : PySem.W.subIn K (.ref C) (.type "object") = some true)
    (hs : PySem.W.findIn K (.ref C) "__eq__" = some (some (.ref f))) (hf : PySem.W.isFn K (.ref f) = true)
    (h : wpAny (model prog w) A.in1 (call (.ref f) [.ref x, b]) (fun v s' => ∃ c, v = .bool c ∧ Q (.bool (!c)) s') E s) : wpAny (model prog w) A (richCompare .NotEq (.ref x) b) Q E s := by
  have one : wpAny (model prog w) A (tryCompare (.ref x) "__ne__" b) (fun r s' => ∃ v, r = some v ∧ Q v s') E s := by
    unfold tryCompare
    refine wpAny_bind (ifBound_slot PySem.F.cmp_object.ne X I hN (wpAny_call (codeAny_call_builtin PySem.F.cmp_object.ne.plain PySem.F.cmpEntry_ne
      (PySem.W.check_slot PySem.F.cmpKind_ne PySem.F.cmpSplit_ne (I.type.andThen (PySem.W.looks_subIn X hO)) (PySem.F.cmpArgs_ne _ _)
        (objNe_entry (A := A.in1) hu X I hs hf (wpAny_mono h (fun v s' hv => ?_) fun _ _ e => e))))))
    obtain ⟨c, rfl, hq⟩ := hv
    first | exact ⟨c, rfl, wpAny_pure ⟨_, rfl, hq⟩⟩ | exact ⟨c, rfl, ⟨_, rfl, hq⟩⟩
  unfold richCompare
  simp only [oneThing_ref]
  refine wpAny_holding (wpAny_bind (wpAny_cRoomFor (Nat.lt_of_succ_lt hu) ?_))
  rw [cmpInfo_NotEq]
  dsimp only
  refine wpAny_bind (I.type.here (wpAny_bind (hb.here ?_)))
  split
  · rename_i q
    have e : PySem.W.subIn K tb (.ref C) = some false := by
      rcases Bool.or_eq_true_iff.mp hn with e | e
      · rw [beq_iff_eq.mp e] at q; simp at q
      · exact beq_iff_eq.mp e
    refine wpAny_bind ((PySem.W.looks_subIn X e).here ?_)
    simp only [Bool.false_eq_true, if_false]
    refine wpAny_bind (wpAny_mono one (fun r s' z => ?_) fun _ _ e => e)
    obtain ⟨v, rfl, hq⟩ := z
    exact wpAny_pure hq
  · refine wpAny_bind (wpAny_pure ?_)
    simp only [Bool.false_eq_true, if_false]
    refine wpAny_bind (wpAny_mono one (fun r s' z => ?_) fun _ _ e => e)
    obtain ⟨v, rfl, hq⟩ := z
    exact wpAny_pure hq
end
section
variable {X : Cx}
/-- k + x, k - x: k an int, x of the class C -/
theorem op_reflAdd {C : Addr} {k j j0 : Nat} {sp sp0 : Sp} (O0 : Om X.prog X.w X.K X.mg X.base C j0 (dunder "add") sp0) (O : Om X.prog X.w X.K X.mg X.base C j (dunderR "add") sp) (T : OpI X.K C "add") (hr : Room k X.A) (hjk : j ≤ k := by decide) : OpR X (binaryOp .Add) (rRefl C sp) := by
  intro pins s σ H x y v u Q I rx ry h
  obtain ⟨a, dx, fs, i, rfl, rfl, ha, q⟩ := h
  obtain ⟨f, fd, ps, F, hs, hf, hbd⟩ := O
  obtain ⟨f0, _, _, _, hs0, _, _⟩ := O0
  have rr : Vals [V.ref a, V.int i] [u, v] := .cons ry (.cons rx .nil)
  obtain ⟨t, rfl⟩ := (show ∃ t, v = Value.int i t from rx)
  cases (show u = Value.ref a from ry)
  obtain ⟨od, J⟩ := ins_at I ha
  exact refl_binop (op := .Add) I.kIn J T.sf hs0 hs hf T.s2 PySem.F.fills_int_add PySem.F.slot_int_add (add_no_call i t J.1) (om_run F hbd (hr.mono hjk) I rr q)
theorem op_reflSub {C : Addr} {k j j0 : Nat} {sp sp0 : Sp} (O0 : Om X.prog X.w X.K X.mg X.base C j0 (dunder "sub") sp0) (O : Om X.prog X.w X.K X.mg X.base C j (dunderR "sub") sp) (T : OpI X.K C "sub") (hr : Room k X.A) (hjk : j ≤ k := by decide) : OpR X (binaryOp .Sub) (rRefl C sp) := by
  intro pins s σ H x y v u Q I rx ry h
  obtain ⟨a, dx, fs, i, rfl, rfl, ha, q⟩ := h
  obtain ⟨f, fd, ps, F, hs, hf, hbd⟩ := O
  obtain ⟨f0, _, _, _, hs0, _, _⟩ := O0
  have rr : Vals [V.ref a, V.int i] [u, v] := .cons ry (.cons rx .nil)
  obtain ⟨t, rfl⟩ := (show ∃ t, v = Value.int i t from rx)
  cases (show u = Value.ref a from ry)
  obtain ⟨od, J⟩ := ins_at I ha
  exact refl_binop (op := .Sub) I.kIn J T.sf hs0 hs hf T.s2 PySem.F.fills_int_sub PySem.F.slot_int_sub (sub_no_call i t J.1) (om_run F hbd (hr.mono hjk) I rr q)
/-- -x, x of the class C -/
theorem un_own {C : Addr} {k j : Nat} {sp : Sp} (O : Om X.prog X.w X.K X.mg X.base C j "__neg__" sp) (hr : Room k X.A) (hjk : j ≤ k := by decide) : UnR X (unaryOp .USub) (fun x H Q => ∃ (a dx : Addr) (fs : List (Str × V)), x = .ref a ∧ H a = some (.ins C dx fs) ∧ sp [x] H Q E0) := by
  intro pins s σ H x v Q I rx h
  obtain ⟨a, dx, fs, rfl, ha, q⟩ := h
  obtain ⟨f, fd, ps, F, hs, hf, hbd⟩ := O
  cases (show v = Value.ref a from rx)
  obtain ⟨od, J⟩ := ins_at I ha
  obtain ⟨m, hF⟩ := I.fr
  exact PySem.W.ksp_neg hF I.ok.mod.kin J hs hf (run_fn (vs := [.ref a]) F (hr.mono hjk) hbd .nil pass0 I (.cons rx .nil) (by rw [List.append_nil]; exact q))
/-- what != asks of the class -/
structure NeC (K : PySem.W.Frag) (C : Addr) : Prop where
  ne : PySem.W.findIn K (.ref C) "__ne__" = some (some (.builtin "object.__ne__"))
  ob : PySem.W.subIn K (.ref C) (.type "object") = some true
/-- x != y, x of the class C with its own ==, no != -/
def rNeOwn (K : PySem.W.Frag) (C : Addr) (sp : Sp) : R2 := fun x y H Q => ∃ (a dx : Addr) (fs : List (Str × V)) (t : Value), x = .ref a ∧ H a = some (.ins C dx fs) ∧ TyOf K H y t ∧ PySem.W.notFirst K C t = true ∧ sp [x, y] H (fun z H' => ∃ c, z = .bl c ∧ Q (.bl (!c)) H') E0
theorem op_neOwn {C : Addr} {k j : Nat} {sp : Sp} (O : Om X.prog X.w X.K X.mg X.base C j "__eq__" sp) (N : NeC X.K C) (hr : Room k X.A) (hjk : j + 1 ≤ k := by decide) : OpR X (compareOp .NotEq) (rNeOwn X.K C sp) := by
  intro pins s σ H x y v u Q I rx ry h
  obtain ⟨a, dx, fs, t, rfl, ha, ty, hn, q⟩ := h
  obtain ⟨f, fd, ps, F, hs, hf, hbd⟩ := O
  have rr : Vals [V.ref a, y] [v, u] := .cons rx (.cons ry .nil)
  cases (show v = Value.ref a from rx)
  obtain ⟨od, J⟩ := ins_at I ha
  show wpAny (model X.prog X.w) X.A (richCompare .NotEq (.ref a) u) (EP X pins σ Q) X.xe s
  have hr1 : Room (j + 1) X.A := hr.mono hjk
  refine ne_K (by have := hr.un; omega) I.kIn J (ty_looks I ry ty) hn N.ne N.ob hs hf ?_
  have R := FnOk.raw F hbd .nil
  refine wpAny_mono (wpAny_call (SlX.run_at (us := [.ref a, u]) (ws := [.ref a, y]) R hr1.in1 I.env0.in1 pass0 I rr (by rw [List.append_nil]; exact q))) (fun z s' hz => ?_) fun _ _ e => e
  obtain ⟨z', H', I', rz, c, ec, qc⟩ := hz
  subst ec
  cases (show z = Value.bool c from rz)
  exact ⟨c, rfl, .bl (!c), H', I', rfl, qc⟩
end
end Z

set_option maxHeartbeats 4000000
namespace Z
open PySem PySem.Spec PyProof.Rows L2
/-! ### sums and places as objects -/
theorem look_hd {f : Str} {v : V} {r : List (Str × V)} : List.lookup f ((f, v) :: r) = some v := by simp [List.lookup]
theorem look_tl {f g : Str} {v : V} {r : List (Str × V)} (h : ¬ f = g) : List.lookup f ((g, v) :: r) = List.lookup f r := by
  have e : (f == g) = false := by simpa using h
  simp [List.lookup, e]
theorem at_upd {H : Hp} {t l : Addr} {u : HO} (o : HO) (h : H t = some u) (hl : H l = none) : (upd H l o) t = some u := by
  rw [upd_ne (ne_of_none h hl)]
  exact h
theorem Same.keep {H H1 H' : Hp} {a : Addr} {o : HO} (s : Same H H1) (ha : H1 a = none) (kp : Keep a (upd H1 a o) H') : Same H H' := fun b u e => by
  have q := s b u e
  have nb : b ≠ a := ne_of_none q ha
  exact kp b u nb (by rw [upd_ne nb]; exact q)
/-- behind a new instance -/
theorem Same.made {H H1 H' : Hp} {x dx C : Addr} (s : Same H H1) (nx : H1 x = none) (nd : H1 dx = none) (kp : Keep x (upd (upd H1 dx (.own x)) x (.ins C dx [])) H') : Same H H' := fun b u e => by
  have q := s b u e
  have nb : b ≠ x := ne_of_none q nx
  have nd' : b ≠ dx := ne_of_none q nd
  exact kp b u nb (by rw [upd_ne nb, upd_ne nd']; exact q)
theorem in_ : ¬ (("i" : Str) = "n") := by decide +kernel
theorem io_ : ¬ (("i" : Str) = "one") := by decide +kernel
theorem no_ : ¬ (("n" : Str) = "one") := by decide +kernel
theorem sd_ : ¬ (("straight" : Str) = "divisor") := by decide +kernel
theorem len1 (f : Str) (v : V) : (putF f v []).length < 1000 := Nat.lt_of_le_of_lt (length_putF f v []) (by decide)
theorem len2 (f g : Str) (v u : V) : (putF f v (putF g u [])).length < 1000 := Nat.lt_of_le_of_lt (Nat.le_trans (length_putF f v _) (Nat.add_le_add_right (length_putF g u []) 1)) (by decide)
def sf (a b c : Int) : List (Str × V) := putF "one" (.int c) (putF "n" (.int b) (putF "i" (.int a) []))
theorem sf_i (a b c : Int) : (sf a b c).lookup ("i" : Str) = some (.int a) := by
  unfold sf
  rw [lookup_putF, if_neg io_, lookup_putF, if_neg in_, lookup_putF, if_pos rfl]
theorem sf_n (a b c : Int) : (sf a b c).lookup ("n" : Str) = some (.int b) := by
  unfold sf
  rw [lookup_putF, if_neg no_, lookup_putF, if_pos rfl]
theorem sf_one (a b c : Int) : (sf a b c).lookup ("one" : Str) = some (.int c) := by
  unfold sf
  rw [lookup_putF, if_pos rfl]
theorem sf_no (a b c : Int) {m : Str} (h1 : ¬ m = "i") (h2 : ¬ m = "n") (h3 : ¬ m = "one") : (sf a b c).lookup m = none := by
  unfold sf
  rw [lookup_putF, if_neg h3, lookup_putF, if_neg h2, lookup_putF, if_neg h1]
  rfl
def pf (q : Addr) (d : Int) : List (Str × V) := putF "divisor" (.int d) (putF "straight" (.ref q) [])
theorem pf_s (q : Addr) (d : Int) : (pf q d).lookup ("straight" : Str) = some (.ref q) := by
  unfold pf
  rw [lookup_putF, if_neg sd_, lookup_putF, if_pos rfl]
theorem pf_d (q : Addr) (d : Int) : (pf q d).lookup ("divisor" : Str) = some (.int d) := by
  unfold pf
  rw [lookup_putF, if_pos rfl]
theorem pf_no (q : Addr) (d : Int) {m : Str} (h1 : ¬ m = "straight") (h2 : ¬ m = "divisor") : (pf q d).lookup m = none := by
  unfold pf
  rw [lookup_putF, if_neg h2, lookup_putF, if_neg h1]
  rfl
section
variable (K : PySem.W.Frag)
abbrev CS : Addr := He.ga K "Straight"
abbrev CP : Addr := He.ga K "Place"
def StrAt (H : Hp) (p : Addr) (a b c : Int) : Prop := ∃ dx, H p = some (.ins (CS K) dx (sf a b c))
def PlcAt (H : Hp) (p : Addr) (a b c d : Int) : Prop := ∃ dx q, H p = some (.ins (CP K) dx (pf q d)) ∧ StrAt K H q a b c
/-- a sum, or an int in its place -/
def SumV (H : Hp) (v : V) (a b c : Int) : Prop := (∃ p, v = .ref p ∧ StrAt K H p a b c) ∨ (v = .int c ∧ a = 0 ∧ b = 0)
end
variable {K : PySem.W.Frag}
theorem StrAt.same {H H' : Hp} {p : Addr} {a b c : Int} (h : StrAt K H p a b c) (s : Same H H') : StrAt K H' p a b c := by
  obtain ⟨dx, h⟩ := h
  exact ⟨dx, s _ _ h⟩
theorem PlcAt.same {H H' : Hp} {p : Addr} {a b c d : Int} (h : PlcAt K H p a b c d) (s : Same H H') : PlcAt K H' p a b c d := by
  obtain ⟨dx, q, h, h2⟩ := h
  exact ⟨dx, q, s _ _ h, h2.same s⟩
theorem SumV.same {H H' : Hp} {v : V} {a b c : Int} (h : SumV K H v a b c) (s : Same H H') : SumV K H' v a b c := by
  rcases h with ⟨p, e, h⟩ | h
  · exact .inl ⟨p, e, h.same s⟩
  · exact .inr h
theorem StrAt.keep {H H' : Hp} {p q : Addr} {a b c : Int} {t : Nat} (h : StrAt K H p a b c) (hp : Pen H q t) (k : Keep q H H') : StrAt K H' p a b c := by
  obtain ⟨dx, h⟩ := h
  exact ⟨dx, k _ _ (hp.ne h fun _ z => by cases z) h⟩
theorem PlcAt.keep {H H' : Hp} {p q : Addr} {a b c d : Int} {t : Nat} (h : PlcAt K H p a b c d) (hp : Pen H q t) (k : Keep q H H') : PlcAt K H' p a b c d := by
  obtain ⟨dx, r, h, h2⟩ := h
  exact ⟨dx, r, k _ _ (hp.ne h fun _ z => by cases z) h, h2.keep hp k⟩
/-- small enough to be multiplied by anything -/
def Sm (i : Int) : Prop := -(2 ^ 64) < i ∧ i < 2 ^ 64
/-! ### what the program's text says of the classes -/
structure Inx (K : PySem.W.Frag) (C : Addr) : Prop where
  ha : PySem.W.findIn K (.ref C) "__class__" = some (some (.builtin "object.__class__"))
  hn : PySem.W.specialIn K (.builtin "object.__class__") "__get__" = some (some (.builtin "getset_descriptor.__get__"))
  ht : PySem.W.takesIn K (.builtin "object.__class__") = some true
  hm : PySem.W.mroIn K C (.type "object") = some true
structure StTx (K : PySem.W.Frag) (mg : Str → Option Value) : Prop where
  gS : mg "Straight" = some (.ref (CS K))
  clS : Cls K (CS K)
  mkS : Mk K (CS K) (He.ma K (CS K) "__init__")
  ixS : Inx K (CS K)
  nI : NoAttr K (CS K) "i"
  nN : NoAttr K (CS K) "n"
  nO : NoAttr K (CS K) "one"
  kSi : PySem.W.kitOne K (.ref (CS K)) (.type "int") = some false
  kSS : PySem.W.kitOne K (.ref (CS K)) (.ref (CS K)) = some true
  kiS : PySem.W.kitOne K (.type "int") (.ref (CS K)) = some false
  isi : mg "isinstance" = none
  int : mg "int" = none
  bool : mg "bool" = none
theorem StTx.ty {mg : Str → Option Value} (T : StTx K mg) {H : Hp} {p : Addr} {a b c : Int} (h : StrAt K H p a b c) : TyOf K H (.ref p) (.ref (CS K)) := by
  obtain ⟨dx, h⟩ := h
  exact .ins h T.clS T.ixS.ha T.ixS.hn T.ixS.ht T.ixS.hm
theorem kii {K : PySem.W.Frag} : PySem.W.kitOne K (.type "int") (.type "int") = some true := kit_ty (by decide +kernel)
theorem kib {K : PySem.W.Frag} : PySem.W.kitOne K (.type "int") (.type "bool") = some false := kit_ty (by decide +kernel)
/-! ### promises -/
section
variable (K : PySem.W.Frag)
def spSI : Sp := fun vs H Q _ => ∃ (p dx : Addr) (a b c : Int), vs = [.ref p, .int a, .int b, .int c] ∧ H p = some (.ins (CS K) dx []) ∧ ∀ H', H' p = some (.ins (CS K) dx (sf a b c)) → Keep p H H' → Q .non H'
/-- a new sum is handed back -/
def NewS (H : Hp) (a b c : Int) (Q : VK) : Prop := ∀ p H', Same H H' → H p = none → StrAt K H' p a b c → Q (.ref p) H'
def spIsInt : Sp := fun vs H Q _ => ∃ v, vs = [v] ∧ ((∃ i, v = .int i ∧ Q (.bl true) H) ∨ ∃ p a b c, v = .ref p ∧ StrAt K H p a b c ∧ Q (.bl false) H)
def spIsStr : Sp := fun vs H Q _ => ∃ v a b c, vs = [v] ∧ SumV K H v a b c ∧ Q (.bl true) H
def spLike : Sp := fun vs H Q _ => ∃ v a b c, vs = [v] ∧ SumV K H v a b c ∧ ∀ p H', Same H H' → StrAt K H' p a b c → Q (.ref p) H'
def spVal : Sp := fun vs H Q _ => ∃ (p : Addr) (a b c i n : Int), vs = [.ref p, .int i, .int n] ∧ StrAt K H p a b c ∧ Sm a ∧ Sm b ∧ Q (.int (a * i + b * n + c)) H
def spAdded : Sp := fun vs H Q _ => ∃ (p q : Addr) (a b c x y z s : Int), vs = [.ref p, .ref q, .int s] ∧ StrAt K H p a b c ∧ StrAt K H q x y z ∧ Sm s ∧ NewS K H (a + s * x) (b + s * y) (c + s * z) Q
def spRepl : Sp := fun vs H Q _ => ∃ (p : Addr) (a b c f g : Int), vs = [.ref p, .int f, .int g] ∧ StrAt K H p a b c ∧ Sm a ∧ NewS K H (a * f) b (c + a * g) Q
def spSEq : Sp := fun vs H Q _ => ∃ (p : Addr) (a b c : Int) (v : V), vs = [.ref p, v] ∧ StrAt K H p a b c ∧ ((∃ q x y z, v = .ref q ∧ StrAt K H q x y z ∧ Q (.bl (decide (a = x ∧ b = y ∧ c = z))) H) ∨
  ∃ t, TyOf K H v t ∧ PySem.W.kitOne K t (.ref (CS K)) = some false ∧ Q (.bl false) H)
def spSAdd : Sp := fun vs H Q _ => ∃ (p : Addr) (a b c x y z : Int) (v : V), vs = [.ref p, v] ∧ StrAt K H p a b c ∧ SumV K H v x y z ∧ ∀ q H', Same H H' → StrAt K H' q (a + x) (b + y) (c + z) → Q (.ref q) H'
def spSMul : Sp := fun vs H Q _ => ∃ (p : Addr) (a b c k : Int), vs = [.ref p, .int k] ∧ StrAt K H p a b c ∧ (Sm k ∨ Sm a ∧ Sm b ∧ Sm c) ∧ NewS K H (a * k) (b * k) (c * k) Q
end
end Z

set_option maxHeartbeats 4000000
namespace Z
open PySem PySem.Spec PyProof.Rows L2
/-! ### numbers of so many bits -/
def Bd (n : Nat) (x : Int) : Prop := x.natAbs < 2 ^ n
theorem Bd.mono {n m : Nat} {x : Int} (h : Bd n x) (e : n ≤ m) : Bd m x := Nat.lt_of_lt_of_le h (Nat.pow_le_pow_right (by decide) e)
theorem Bd.mul {n m : Nat} {x y : Int} (h : Bd n x) (g : Bd m y) : Bd (n + m) (x * y) := by
  unfold Bd at *
  rw [Int.natAbs_mul, Nat.pow_add]
  exact Nat.mul_lt_mul'' h g
theorem Bd.add {n : Nat} {x y : Int} (h : Bd n x) (g : Bd n y) : Bd (n + 1) (x + y) := by
  unfold Bd at *
  rw [Nat.pow_succ]
  omega
theorem Bd.sub {n : Nat} {x y : Int} (h : Bd n x) (g : Bd n y) : Bd (n + 1) (x - y) := by
  unfold Bd at *
  rw [Nat.pow_succ]
  omega
theorem Bd.neg {n : Nat} {x : Int} (h : Bd n x) : Bd n (-x) := by
  unfold Bd at *
  omega
theorem Bd.of {n : Nat} {x : Int} (N : Nat) (hN : N < 2 ^ n) (h1 : -(N : Int) ≤ x) (h2 : x ≤ (N : Int)) : Bd n x := by
  unfold Bd
  omega
theorem bd_c {n m : Nat} {x y : Int} (h : Bd n x) (g : Bd m y) (h0 : 0 < n := by decide) (h1 : 0 < m := by decide) (e : n + m ≤ 1000000 := by decide) : CMulW x y := wide_mul h g h0 h1 e
section
variable (K : PySem.W.Frag)
def spValW : Sp := fun vs H Q _ => ∃ (p : Addr) (a b c i n : Int), vs = [.ref p, .int i, .int n] ∧ StrAt K H p a b c ∧ Bd 400 a ∧ Bd 400 b ∧ Bd 400 i ∧ Bd 400 n ∧ Q (.int (a * i + b * n + c)) H
def spReplW : Sp := fun vs H Q _ => ∃ (p : Addr) (a b c f g : Int), vs = [.ref p, .int f, .int g] ∧ StrAt K H p a b c ∧ Bd 400 a ∧ Bd 400 f ∧ Bd 400 g ∧ NewS K H (a * f) b (c + a * g) Q
def spSMulW : Sp := fun vs H Q _ => ∃ (p : Addr) (a b c k : Int), vs = [.ref p, .int k] ∧ StrAt K H p a b c ∧ Bd 400 k ∧ Bd 400 a ∧ Bd 400 b ∧ Bd 400 c ∧ NewS K H (a * k) (b * k) (c * k) Q
def spSNeg : Sp := fun vs H Q _ => ∃ (p : Addr) (a b c : Int), vs = [.ref p] ∧ StrAt K H p a b c ∧ NewS K H (-a) (-b) (-c) Q
/-- a new sum, or the old one -/
def GotS (H : Hp) (a b c : Int) (Q : VK) : Prop := ∀ q H', Same H H' → StrAt K H' q a b c → Q (.ref q) H'
def spSSub : Sp := fun vs H Q _ => ∃ (p : Addr) (a b c x y z : Int) (v : V), vs = [.ref p, v] ∧ StrAt K H p a b c ∧ SumV K H v x y z ∧ GotS K H (a - x) (b - y) (c - z) Q
def spSRadd : Sp := fun vs H Q _ => ∃ (p : Addr) (a b c x y z : Int) (v : V), vs = [.ref p, v] ∧ StrAt K H p a b c ∧ SumV K H v x y z ∧ GotS K H (x + a) (y + b) (z + c) Q
def spSRsub : Sp := fun vs H Q _ => ∃ (p : Addr) (a b c x y z : Int) (v : V), vs = [.ref p, v] ∧ StrAt K H p a b c ∧ SumV K H v x y z ∧ GotS K H (x - a) (y - b) (z - c) Q
end
end Z

set_option maxHeartbeats 4000000
namespace Z
open PySem PySem.Spec PyProof.Rows L2
/-! ### an own class whose making may raise -/
section
variable {X : Cx} {CX : CXT} {k : Nat} {f C : Addr} {fd : FuncData} {ps : List Str} {sp : Sp} {E : XK}
theorem make_at {pins : List (Addr × Obj)} {σ : L2.St} {H : Hp} {s : Shared} {Q : VK} {us : List Value} {vs : List V} (M : Mk X.K C f) (F : FnOk X.prog X.w X.K X.mg X.base CX k f fd ps sp) (hr : Room (k + 1) X.A) (hb : Binds X.K fd ps [])
    (hx : PassesAt CX X σ E) (I : L2.Inv X pins σ H s) (r : Vals vs us)
    (h : ∀ x dx, H x = none → H dx = none → dx ≠ x → sp (.ref x :: vs) (upd (upd H dx (.own x)) x (.ins C dx [])) (fun v H2 => v = .non ∧ Q (.ref x) H2) E) :
    wpAny (model X.prog X.w) X.A (call (.ref C) us) (EP X pins σ Q) X.xe s := by
  have q0 := h (s.heap.objs.size + 1) s.heap.objs.size (I.hok.fresh (Nat.le_succ _)) (I.hok.fresh (Nat.le_refl _)) (Nat.ne_of_lt (Nat.lt_succ_self _))
  have J := Inv.made (C := C) I
  have rr : Vals (V.ref (s.heap.objs.size + 1) :: vs) (Value.ref (s.heap.objs.size + 1) :: us) := .cons rfl r
  have len : (Value.ref (s.heap.objs.size + 1) :: us).length = ps.length := by
    have e := rr.length
    rw [F.len _ _ _ _ q0] at e
    exact e.symm
  have bb := hb _ (Value.ref (s.heap.objs.size + 1) :: us) J.kIn (by rw [List.append_nil]; exact len)
  rw [List.append_nil] at bb
  refine wpAny_call (make_map (f := f) I.kIn M.makes M.init (beq_iff_eq.mp M.fn) (codeAny_mono (F.run _ X.stack _ _ ⟨Value.ref (s.heap.objs.size + 1) :: us, []⟩ (Value.ref (s.heap.objs.size + 1) :: us) _ _ E (hr.make C us [])
    (J.env0.make C us []) bb rr q0) fun r' s' z => ?_))
  cases r' with
  | error e => exact hx pins _ _ e s' J z
  | ok fl =>
    cases fl with
    | ret u =>
      obtain ⟨v, H', I3, rv, ev, q3⟩ := J.after z
      subst ev
      exact ⟨rv, ⟨V.ref (s.heap.objs.size + 1), H', I3, rfl, q3⟩⟩
    | next => exact False.elim z
    | brk => exact False.elim z
    | cont => exact False.elim z
theorem at_E0 (σ : L2.St) : PassesAt (L2.CX X.prog X.w) X σ E0 := fun pins H s e s' I h => passL pins σ H s e s' I h
end
/-! ### an error's own __init__, its dict new -/
def spErr (K : PySem.W.Frag) (x : Str) (fs : List Str) : Sp := fun vs H Q _ => ∃ (a : Addr) (ws : List V), vs = .ref a :: ws ∧ ws.length = fs.length ∧ H a = some (exo a (He.ga K x) none) ∧
  ∀ (d : Addr) (H' : Hp), H d = none → H' a = some (exo a (He.ga K x) (some d)) → H' d = some (exd d (fs.zip ws).reverse) → Keep a H H' → Q .non H'
structure EC (K : PySem.W.Frag) (mg : Str → Option Value) (x : Str) (fs : List Str) : Prop where
  gC : mg x = some (.ref (He.ga K x))
  ox : OexC K (He.ga K x)
  ex : Exk K (He.ga K x)
  iC : PySem.W.findIn K (.ref (He.ga K x)) "__init__" = some (some (.ref (He.ma K (He.ga K x) "__init__")))
  tI : PySem.W.typeIn K (.ref (He.ma K (He.ga K x) "__init__")) = some (.type "function")
  na : ∀ f ∈ fs, PySem.W.findIn K (.ref (He.ga K x)) f = some none
theorem list2 {ws : List V} (h : ws.length = 2) : ∃ y z, ws = [y, z] := match ws, h with | [y, z], _ => ⟨y, z, rfl⟩
theorem list1 {ws : List V} (h : ws.length = 1) : ∃ y, ws = [y] := match ws, h with | [y], _ => ⟨y, rfl⟩
theorem list3 {ws : List V} (h : ws.length = 3) : ∃ y z u, ws = [y, z, u] := match ws, h with | [y, z, u], _ => ⟨y, z, u, rfl⟩
section
variable {K : PySem.W.Frag} {mg : Str → Option Value} {x f1 f2 f3 n0 n1 n2 n3 : Str} {vs : List V} {H : Hp} {Q : VK} {E : XK}
theorem keep1 {a d : Addr} {o u : HO} (hd : H d = none) : Keep a H (upd (upd H d o) a u) := Keep.upd _ (Keep.new _ (Keep.refl a H) hd)
theorem rd_err1 (M : EC K mg x [f1]) (h : spErr K x [f1] vs H Q E) :
    tOst K f1 (tVar 0) (tVar 1) { nx := fun _ H' => Q .non H', rt := Q } (L2.start [n0, n1] vs) H := by
  obtain ⟨a, ws, rfl, hl, ha, k⟩ := h
  obtain ⟨y, rfl⟩ := list1 hl
  refine ⟨_, rfl, _, rfl, a, _, rfl, M.ox, M.na _ (by simp), .inl ⟨ha, fun d hd nd => ?_⟩⟩
  exact k d _ hd upd_same (by rw [upd_ne nd, upd_same]; rfl) (keep1 hd)
theorem rd_err2 (M : EC K mg x [f1, f2]) (h : spErr K x [f1, f2] vs H Q E) :
    tSeq (tOst K f1 (tVar 0) (tVar 1)) (tOst K f2 (tVar 0) (tVar 2)) { nx := fun _ H' => Q .non H', rt := Q } (L2.start [n0, n1, n2] vs) H := by
  obtain ⟨a, ws, rfl, hl, ha, k⟩ := h
  obtain ⟨y, z, rfl⟩ := list2 hl
  refine ⟨_, rfl, _, rfl, a, _, rfl, M.ox, M.na _ (by simp), .inl ⟨ha, fun d hd nd => ?_⟩⟩
  refine ⟨_, rfl, _, rfl, a, _, rfl, M.ox, M.na _ (by simp), .inr ⟨d, [(f1, y)], upd_same, (by rw [upd_ne nd, upd_same]), (by show 1 ≤ 900; decide), ?_⟩⟩
  refine k d _ hd (by rw [upd_ne nd.symm, upd_same]) upd_same fun b u nb e => ?_
  rw [upd_ne (ne_of_none e hd)]
  exact keep1 hd b u nb e
theorem rd_err3 (M : EC K mg x [f1, f2, f3]) (h : spErr K x [f1, f2, f3] vs H Q E) :
    tSeq (tOst K f1 (tVar 0) (tVar 1)) (tSeq (tOst K f2 (tVar 0) (tVar 2)) (tOst K f3 (tVar 0) (tVar 3))) { nx := fun _ H' => Q .non H', rt := Q } (L2.start [n0, n1, n2, n3] vs) H := by
  obtain ⟨a, ws, rfl, hl, ha, k⟩ := h
  obtain ⟨y, z, u, rfl⟩ := list3 hl
  refine ⟨_, rfl, _, rfl, a, _, rfl, M.ox, M.na _ (by simp), .inl ⟨ha, fun d hd nd => ?_⟩⟩
  refine ⟨_, rfl, _, rfl, a, _, rfl, M.ox, M.na _ (by simp), .inr ⟨d, [(f1, y)], upd_same, (by rw [upd_ne nd, upd_same]), (by show 1 ≤ 900; decide), ?_⟩⟩
  refine ⟨_, rfl, _, rfl, a, _, rfl, M.ox, M.na _ (by simp), .inr ⟨d, [(f2, z), (f1, y)], (by rw [upd_ne nd.symm, upd_same]), upd_same, (by show 2 ≤ 900; decide), ?_⟩⟩
  refine k d _ hd (by rw [upd_ne nd.symm, upd_ne nd.symm, upd_same]) upd_same fun b v nb e => ?_
  rw [upd_ne (ne_of_none e hd), upd_ne (ne_of_none e hd)]
  exact keep1 hd b v nb e
end
/-- an error class that may be raised -/
def Mx (P : Program) (w : World) (K : PySem.W.Frag) (mg : Str → Option Value) (base : Heap) (x : Str) (ps fs : List Str) : Prop :=
  EC K mg x fs ∧ ∃ fd, FnOk P w K mg base CX0 1 (He.ma K (He.ga K x) "__init__") fd ps (spErr K x fs) ∧ Binds K fd ps []
section
variable {X : Cx} {e : Expr} {es : List Expr} {t : TA} {p pos pos2 : Pos} {W : WX}
theorem pmk_err {k : Nat} {x : Str} {ps fs : List Str} (M : Mx X.prog X.w X.K X.mg X.base x ps fs) (hr : Room k X.A) (ha : PA X (e :: es) t) (hk : 2 ≤ k := by decide) (hg : Gl X x := by rfl)
    (hdb : (x == ("__debug__" : Str)) = false := by decide) (he : starEach (e :: es) X.env = (false, eval e X.env) :: starEach es X.env := by rfl) (hpl : (backTo pos (starEach es X.env)).any (·.1) = false := by rfl) :
    PMk X (.Call (.Name x p) (e :: es) [] pos) (tMkO (He.ga X.K x) (spErr X.K x fs) [] t) := by
  obtain ⟨T, fd, F, hb⟩ := M
  exact pmk_oex (CX := CX0) (dvs := []) (ds := []) T.ox T.iC T.tI F (hr.mono hk) hb .nil pass0 hg T.gC ha hdb he hpl
/-- the reading of such a raise behind its arguments: the new dict holds the fields, all else is as it was -/
theorem err_go {K : PySem.W.Frag} {x : Str} {fs : List Str} {vs : List V} {H1 : Hp} {Q : XK} (hl : vs.length ≤ 1000) (hlf : vs.length = fs.length)
    (w : ∀ d H', Same H1 H' → H' d = some (.xd (fs.zip vs).reverse) → Q (.ref (He.ga K x)) (some d) H') :
    vs.length ≤ 1000 ∧ ∀ a, H1 a = none → spErr K x fs (.ref a :: (vs ++ [])) (upd H1 a (exo a (He.ga K x) none))
      (fun v H2 => v = .non ∧ ∃ (d : Addr) (fs' : List (Str × V)), H2 a = some (exo a (He.ga K x) (some d)) ∧ H2 d = some (exd d fs') ∧ H1 d = none ∧ Q (.ref (He.ga K x)) (some d) (upd (del H2 a) d (.xd fs'))) (fun _ _ _ => False) := by
  refine ⟨hl, fun a ha => ?_⟩
  rw [List.append_nil]
  refine ⟨a, vs, rfl, hlf, upd_same, fun d H' hd hA hD kp => ⟨rfl, d, _, hA, hD, ?_, w d _ (fun b u e => ?_) upd_same⟩⟩
  · have n : d ≠ a := fun z => by
      rw [z, upd_same] at hd
      cases hd
    rw [upd_ne n] at hd
    exact hd
  · have nb : b ≠ a := ne_of_none e ha
    have nd : b ≠ d := fun z => by
      rw [← z, upd_ne nb] at hd
      rw [hd] at e
      cases e
    rw [upd_ne nd, del_ne nb]
    exact kp b u nb (by rw [upd_ne nb]; exact e)
end
/-! ### places -/
def gg (a b d : Int) : Nat := Nat.gcd (Nat.gcd a.natAbs b.natAbs) d.natAbs
abbrev CB (K : PySem.W.Frag) : Addr := He.ga K "BadNumber"
structure PlTx (K : PySem.W.Frag) (mg : Str → Option Value) : Prop extends StTx K mg where
  gP : mg "Place" = some (.ref (CP K))
  clP : Cls K (CP K)
  mkP : Mk K (CP K) (He.ma K (CP K) "__init__")
  ixP : Inx K (CP K)
  nS : NoAttr K (CP K) "straight"
  nD : NoAttr K (CP K) "divisor"
  gcd : mg "gcd" = some (.builtin "math.gcd")
  kPP : PySem.W.kitOne K (.ref (CP K)) (.ref (CP K)) = some true
  kPS : PySem.W.kitOne K (.ref (CP K)) (.ref (CS K)) = some false
  kSP : PySem.W.kitOne K (.ref (CS K)) (.ref (CP K)) = some false
  kiP : PySem.W.kitOne K (.type "int") (.ref (CP K)) = some false
theorem PlTx.pty {K : PySem.W.Frag} {mg : Str → Option Value} (T : PlTx K mg) {H : Hp} {p : Addr} {a b c d : Int} (h : PlcAt K H p a b c d) : TyOf K H (.ref p) (.ref (CP K)) := by
  obtain ⟨dx, q, h, _⟩ := h
  exact .ins h T.clP T.ixP.ha T.ixP.hn T.ixP.ht T.ixP.hm
def bnF (w : Str) (v : V) : List (Str × V) := [("number", v), ("what", .str w)]
section
variable (K : PySem.W.Frag)
/-- the place that is made of a sum and a divisor -/
def NewP (H : Hp) (a b c d : Int) (Q : VK) : Prop := ∀ p H', Same H H' → PlcAt K H' p (a.fdiv (gg a b d)) (b.fdiv (gg a b d)) (c.fdiv (gg a b d)) (d.fdiv (gg a b d)) → Q (.ref p) H'
def BadN (H : Hp) (w : Str) (v : V) (E : XK) : Prop := ∀ e H', Same H H' → H' e = some (.xd (bnF w v)) → E (.ref (CB K)) (some e) H'
def spPI : Sp := fun vs H Q E => ∃ (p dx : Addr) (v : V) (a b c d : Int), vs = [.ref p, v, .int d] ∧ H p = some (.ins (CP K) dx []) ∧ SumV K H v a b c ∧ (d < 1 → BadN K H "divisor" (.int d) E) ∧
  (1 ≤ d → d < 1073741824 ∧ ∀ q H', H' p = some (.ins (CP K) dx (pf q (d.fdiv (gg a b d)))) → StrAt K H' q (a.fdiv (gg a b d)) (b.fdiv (gg a b d)) (c.fdiv (gg a b d)) → Keep p H H' → Q .non H')
/-- Place(v, d): what is asked of the arguments -/
def rPlc (v : V) (d : Int) (H : Hp) (Q : VK) (E : XK) : Prop := ∃ a b c, SumV K H v a b c ∧ (d < 1 → BadN K H "divisor" (.int d) E) ∧ (1 ≤ d → d < 1073741824 ∧ NewP K H a b c d Q)
def spFdiv : Sp := fun vs H Q E => ∃ (p : Addr) (a b c d : Int), vs = [.ref p, .int d] ∧ StrAt K H p a b c ∧ (d < 1 → BadN K H "divisor" (.int d) E) ∧ (1 ≤ d → d < 1073741824 ∧ NewP K H a b c d Q)
def spPCall : Sp := fun vs H Q _ => ∃ (p : Addr) (a b c d i n : Int), vs = [.ref p, .int i, .int n] ∧ PlcAt K H p a b c d ∧ Sm a ∧ Sm b ∧ 0 < d ∧ d < 1073741824 ∧ Q (.int ((a * i + b * n + c).fdiv d)) H
def spPEq : Sp := fun vs H Q _ => ∃ (p : Addr) (a b c d : Int) (v : V), vs = [.ref p, v] ∧ PlcAt K H p a b c d ∧ ((∃ q x y z u, v = .ref q ∧ PlcAt K H q x y z u ∧ Q (.bl (decide (a = x ∧ b = y ∧ c = z ∧ d = u))) H) ∨
  ∃ t, TyOf K H v t ∧ PySem.W.kitOne K t (.ref (CP K)) = some false ∧ Q (.bl false) H)
def spPRepl : Sp := fun vs H Q _ => ∃ (p : Addr) (a b c d f g : Int), vs = [.ref p, .int f, .int g] ∧ PlcAt K H p a b c d ∧ Sm a ∧ 1 ≤ d ∧ d < 1073741824 ∧ NewP K H (a * f) b (c + a * g) d Q
end
end Z

namespace Z
/-! ### the arithmetic of least forms -/
theorem fe {x g : Int} (h : 0 < g) : x.fdiv g = x / g := Int.fdiv_eq_ediv_of_nonneg _ (Int.le_of_lt h)
theorem gg_pos {a b d : Int} (h : 0 < d) : 0 < gg a b d := Nat.gcd_pos_of_pos_right _ (by omega)
theorem gg_le {a b d : Int} (h : 0 < d) : ((gg a b d : Nat) : Int) ≤ d := by
  have := Nat.le_of_dvd (by omega) (Nat.gcd_dvd_right (Nat.gcd a.natAbs b.natAbs) d.natAbs)
  show ((Nat.gcd (Nat.gcd a.natAbs b.natAbs) d.natAbs : Nat) : Int) ≤ d
  omega
theorem gg_dvd (a b d : Int) : ∃ a' b' d', a = (gg a b d : Int) * a' ∧ b = (gg a b d : Int) * b' ∧ d = (gg a b d : Int) * d' := by
  have h1 : ((gg a b d : Nat) : Int) ∣ a := Int.ofNat_dvd_left.mpr (Nat.dvd_trans (Nat.gcd_dvd_left _ _) (Nat.gcd_dvd_left _ _))
  have h2 : ((gg a b d : Nat) : Int) ∣ b := Int.ofNat_dvd_left.mpr (Nat.dvd_trans (Nat.gcd_dvd_left _ _) (Nat.gcd_dvd_right _ _))
  have h3 : ((gg a b d : Nat) : Int) ∣ d := Int.ofNat_dvd_left.mpr (Nat.gcd_dvd_right _ _)
  exact ⟨_, _, _, h1.choose_spec, h2.choose_spec, h3.choose_spec⟩
theorem fmul {g x : Int} (h : 0 < g) : (g * x).fdiv g = x := by
  rw [fe h]
  exact Int.mul_ediv_cancel_left _ (by omega)
theorem fdiv_bd {x M g : Int} (h : 0 < g) (hM : 0 ≤ M) (h1 : -M ≤ x) (h2 : x ≤ M) : -M ≤ x.fdiv g ∧ x.fdiv g ≤ M := by
  rw [fe h]
  have z : M ≤ M * g := by
    have := Int.mul_le_mul_of_nonneg_left (show (1 : Int) ≤ g by omega) hM
    omega
  have z2 : -M * g ≤ x := by
    rw [Int.neg_mul]
    omega
  refine ⟨Int.le_ediv_of_mul_le h z2, ?_⟩
  exact Int.ediv_le_of_le_mul h (by omega)
/-- the divisor of the least form is from 1 on and not above d -/
theorem dv_bd {a b d : Int} (h : 0 < d) : 1 ≤ d.fdiv (gg a b d) ∧ d.fdiv (gg a b d) ≤ d := by
  have g0 : (0 : Int) < (gg a b d : Nat) := by exact_mod_cast gg_pos h
  refine ⟨?_, (fdiv_bd g0 (Int.le_of_lt h) (by omega) (Int.le_refl d)).2⟩
  rw [fe g0]
  exact Int.le_ediv_of_mul_le g0 (by rw [Int.one_mul]; exact gg_le h)
/-- the value of the least form -/
theorem val_least {a b c d i n : Int} (h : 0 < d) : ((a.fdiv (gg a b d)) * i + (b.fdiv (gg a b d)) * n + c.fdiv (gg a b d)).fdiv (d.fdiv (gg a b d)) = (a * i + b * n + c).fdiv d := by
  have dv := dv_bd (a := a) (b := b) h
  obtain ⟨a', b', d', ha, hb, hd⟩ := gg_dvd a b d
  have g0 : (0 : Int) < (gg a b d : Nat) := by exact_mod_cast gg_pos h
  generalize ((gg a b d : Nat) : Int) = g at *
  have e1 : a.fdiv g = a' := by rw [ha]; exact fmul g0
  have e2 : b.fdiv g = b' := by rw [hb]; exact fmul g0
  have e3 : d.fdiv g = d' := by rw [hd]; exact fmul g0
  rw [e3] at dv
  rw [e1, e2, e3, fe (show 0 < d' by omega), fe g0, fe h]
  have e4 : a * i + b * n + c = c + g * (a' * i + b' * n) := by
    rw [ha, hb, Int.mul_add, Int.mul_assoc, Int.mul_assoc]
    omega
  have e5 : a' * i + b' * n + c / g = (c + g * (a' * i + b' * n)) / g := by
    rw [Int.add_mul_ediv_left _ _ (by omega)]
    omega
  rw [e4, e5, hd, Int.ediv_ediv_of_nonneg (Int.le_of_lt g0)]
/-- the least form of a least form with another counter -/
theorem least_moved {a b c d m s : Int} (h : 0 < d) :
    (a.fdiv (gg a b d) * m).fdiv (gg (a.fdiv (gg a b d) * m) (b.fdiv (gg a b d)) (d.fdiv (gg a b d))) = (a * m).fdiv (gg (a * m) b d) ∧
    (b.fdiv (gg a b d)).fdiv (gg (a.fdiv (gg a b d) * m) (b.fdiv (gg a b d)) (d.fdiv (gg a b d))) = b.fdiv (gg (a * m) b d) ∧
    (c.fdiv (gg a b d) + a.fdiv (gg a b d) * s).fdiv (gg (a.fdiv (gg a b d) * m) (b.fdiv (gg a b d)) (d.fdiv (gg a b d))) = (a * s + c).fdiv (gg (a * m) b d) ∧
    (d.fdiv (gg a b d)).fdiv (gg (a.fdiv (gg a b d) * m) (b.fdiv (gg a b d)) (d.fdiv (gg a b d))) = d.fdiv (gg (a * m) b d) := by
  have dv := dv_bd (a := a) (b := b) h
  obtain ⟨a', b', d', ha, hb, hd⟩ := gg_dvd a b d
  have gp := gg_pos (a := a) (b := b) h
  have g0 : (0 : Int) < (gg a b d : Nat) := by exact_mod_cast gp
  generalize hg : gg a b d = g at *
  have e1 : a.fdiv g = a' := by rw [ha]; exact fmul g0
  have e2 : b.fdiv g = b' := by rw [hb]; exact fmul g0
  have e3 : d.fdiv g = d' := by rw [hd]; exact fmul g0
  rw [e3] at dv
  rw [e1, e2, e3]
  have d0 : 0 < d' := by omega
  have p2 := gg_pos (a := a' * m) (b := b') d0
  have e4 : gg (a * m) b d = g * gg (a' * m) b' d' := by
    unfold gg
    rw [ha, hb, hd, Int.mul_assoc]
    simp only [Int.natAbs_mul, Int.natAbs_natCast, Nat.gcd_mul_left]
  rw [e4]
  generalize gg (a' * m) b' d' = k at *
  have k0 : (0 : Int) < (k : Nat) := by exact_mod_cast p2
  have gk : (0 : Int) < ((g * k : Nat) : Int) := by exact_mod_cast Nat.mul_pos gp p2
  rw [fe k0, fe k0, fe k0, fe k0, fe gk, fe gk, fe gk, fe gk, fe g0, Int.natCast_mul]
  refine ⟨?_, ?_, ?_, ?_⟩
  · rw [ha, Int.mul_assoc, Int.mul_ediv_mul_of_pos _ _ g0]
  · rw [hb, Int.mul_ediv_mul_of_pos _ _ g0]
  · have e5 : a * s + c = c + g * (a' * s) := by
      rw [ha, Int.mul_assoc]
      omega
    rw [e5, ← Int.ediv_ediv_of_nonneg (Int.le_of_lt g0), Int.add_mul_ediv_left _ _ (by omega)]
  · rw [hd, Int.mul_ediv_mul_of_pos _ _ g0]
end Z

set_option maxHeartbeats 4000000
namespace Z
open PySem PySem.Spec PyProof.Rows L2
/-! ### conditions -/
def g2 (a b : Int) : Nat := Nat.gcd a.natAbs b.natAbs
def lf3 (a b c : Int) : Int := if g2 a b = 0 then (if 0 ≤ c then 0 else -1) else c.fdiv (g2 a b)
theorem g2_le {a b : Int} {N : Nat} (ha : a.natAbs ≤ N) (hb : b.natAbs ≤ N) : g2 a b ≤ N := by
  unfold g2
  by_cases h : a.natAbs = 0
  · rw [h, Nat.gcd_zero_left]
    exact hb
  · exact Nat.le_trans (Nat.le_of_dvd (by omega) (Nat.gcd_dvd_left _ _)) ha
theorem g2_zero {a b : Int} (h : g2 a b = 0) : a = 0 ∧ b = 0 := by
  unfold g2 at h
  have h1 := Nat.eq_zero_of_gcd_eq_zero_left h
  have h2 := Nat.eq_zero_of_gcd_eq_zero_right h
  omega
/-- the least form tells the same -/
theorem least_form {a b c i n : Int} : decide (0 ≤ (a.fdiv (g2 a b)) * i + (b.fdiv (g2 a b)) * n + lf3 a b c) = decide (0 ≤ a * i + b * n + c) := by
  unfold lf3
  by_cases h : g2 a b = 0
  · obtain ⟨rfl, rfl⟩ := g2_zero h
    rw [if_pos h, Int.zero_fdiv, Int.zero_mul, Int.zero_mul]
    by_cases hc : 0 ≤ c
    · rw [if_pos hc]
      exact decide_eq_decide.mpr (by omega)
    · rw [if_neg hc]
      exact decide_eq_decide.mpr (by omega)
  · rw [if_neg h]
    have h1 : ((g2 a b : Nat) : Int) ∣ a := Int.ofNat_dvd_left.mpr (Nat.gcd_dvd_left _ _)
    have h2 : ((g2 a b : Nat) : Int) ∣ b := Int.ofNat_dvd_left.mpr (Nat.gcd_dvd_right _ _)
    obtain ⟨a', ha⟩ := h1
    obtain ⟨b', hb⟩ := h2
    have g0 : (0 : Int) < (g2 a b : Nat) := by omega
    generalize ((g2 a b : Nat) : Int) = g at *
    have e1 : a.fdiv g = a' := by rw [ha]; exact fmul g0
    have e2 : b.fdiv g = b' := by rw [hb]; exact fmul g0
    rw [e1, e2, fe g0]
    have e4 : a * i + b * n + c = c + g * (a' * i + b' * n) := by
      rw [ha, hb, Int.mul_add, Int.mul_assoc, Int.mul_assoc]
      omega
    have e5 : a' * i + b' * n + c / g = (c + g * (a' * i + b' * n)) / g := by
      rw [Int.add_mul_ediv_left _ _ (by omega)]
      omega
    rw [e4, e5]
    exact decide_eq_decide.mpr (Int.ediv_nonneg_iff_of_pos g0)
theorem fm {x m : Int} (h : 0 < m) : x.fmod m = x % m := Int.fmod_eq_emod_of_nonneg _ (Int.le_of_lt h)
theorem rest_form {a b c m r i n : Int} (hm : 2 ≤ m) (hm2 : m ≤ 4) (r0 : 0 ≤ r) (r1 : r ≤ m - 1) : decide (((a.fmod m) * i + (b.fmod m) * n + 0).fmod m = (r - c).fmod m) = decide ((a * i + b * n + c).fmod m = r) := by
  have m0 : 0 < m := by omega
  rw [fm m0, fm m0, fm m0, fm m0, fm m0]
  have e : a * i + b * n = (a % m * i + b % m * n) + m * (a / m * i + b / m * n) := by
    have e1 : a * i = a % m * i + m * (a / m * i) := by
      rw [← Int.mul_assoc, ← Int.add_mul, Int.emod_add_mul_ediv]
    have e2 : b * n = b % m * n + m * (b / m * n) := by
      rw [← Int.mul_assoc, ← Int.add_mul, Int.emod_add_mul_ediv]
    rw [Int.mul_add]
    omega
  rw [e]
  generalize a % m * i + b % m * n = y
  generalize a / m * i + b / m * n = k
  refine decide_eq_decide.mpr ?_
  have h3 : m = 2 ∨ m = 3 ∨ m = 4 := by omega
  rcases h3 with z | z | z <;> subst z <;> omega
section
variable (K : PySem.W.Frag)
abbrev CA : Addr := He.ga K "AtLeast"
abbrev CR : Addr := He.ga K "Rest"
def af (q : Addr) : List (Str × V) := putF "straight" (.ref q) []
def rf (q : Addr) (m r : Int) : List (Str × V) := putF "rest" (.int r) (putF "modulus" (.int m) (putF "straight" (.ref q) []))
def AtlAt (H : Hp) (p : Addr) (a b c : Int) : Prop := ∃ dx q, H p = some (.ins (CA K) dx (af q)) ∧ StrAt K H q a b c
def RstAt (H : Hp) (p : Addr) (a b m r : Int) : Prop := ∃ dx q, H p = some (.ins (CR K) dx (rf q m r)) ∧ StrAt K H q a b 0
end
theorem sm_ : ¬ (("straight" : Str) = "modulus") := by decide +kernel
theorem sr_ : ¬ (("straight" : Str) = "rest") := by decide +kernel
theorem mr_ : ¬ (("modulus" : Str) = "rest") := by decide +kernel
theorem af_s (q : Addr) : (af q).lookup ("straight" : Str) = some (.ref q) := by
  unfold af
  rw [lookup_putF, if_pos rfl]
theorem af_no (q : Addr) {m : Str} (h1 : ¬ m = "straight") : (af q).lookup m = none := by
  unfold af
  rw [lookup_putF, if_neg h1]
  rfl
theorem rf_s (q : Addr) (m r : Int) : (rf q m r).lookup ("straight" : Str) = some (.ref q) := by
  unfold rf
  rw [lookup_putF, if_neg sr_, lookup_putF, if_neg sm_, lookup_putF, if_pos rfl]
theorem rf_m (q : Addr) (m r : Int) : (rf q m r).lookup ("modulus" : Str) = some (.int m) := by
  unfold rf
  rw [lookup_putF, if_neg mr_, lookup_putF, if_pos rfl]
theorem rf_r (q : Addr) (m r : Int) : (rf q m r).lookup ("rest" : Str) = some (.int r) := by
  unfold rf
  rw [lookup_putF, if_pos rfl]
theorem rf_no (q : Addr) (k r : Int) {m : Str} (h1 : ¬ m = "straight") (h2 : ¬ m = "modulus") (h3 : ¬ m = "rest") : (rf q k r).lookup m = none := by
  unfold rf
  rw [lookup_putF, if_neg h3, lookup_putF, if_neg h2, lookup_putF, if_neg h1]
  rfl
variable {K : PySem.W.Frag}
theorem AtlAt.same {H H' : Hp} {p : Addr} {a b c : Int} (h : AtlAt K H p a b c) (s : Same H H') : AtlAt K H' p a b c := by
  obtain ⟨dx, q, h, h2⟩ := h
  exact ⟨dx, q, s _ _ h, h2.same s⟩
theorem RstAt.same {H H' : Hp} {p : Addr} {a b m r : Int} (h : RstAt K H p a b m r) (s : Same H H') : RstAt K H' p a b m r := by
  obtain ⟨dx, q, h, h2⟩ := h
  exact ⟨dx, q, s _ _ h, h2.same s⟩
theorem AtlAt.keep {H H' : Hp} {p q : Addr} {a b c : Int} {t : Nat} (h : AtlAt K H p a b c) (hp : Pen H q t) (k : Keep q H H') : AtlAt K H' p a b c := by
  obtain ⟨dx, r, h, h2⟩ := h
  exact ⟨dx, r, k _ _ (hp.ne h fun _ z => by cases z) h, h2.keep hp k⟩
theorem RstAt.keep {H H' : Hp} {p q : Addr} {a b m r : Int} {t : Nat} (h : RstAt K H p a b m r) (hp : Pen H q t) (k : Keep q H H') : RstAt K H' p a b m r := by
  obtain ⟨dx, r, h, h2⟩ := h
  exact ⟨dx, r, k _ _ (hp.ne h fun _ z => by cases z) h, h2.keep hp k⟩
structure CoTx (K : PySem.W.Frag) (mg : Str → Option Value) : Prop extends StTx K mg where
  gA : mg "AtLeast" = some (.ref (CA K))
  clA : Cls K (CA K)
  mkA : Mk K (CA K) (He.ma K (CA K) "__init__")
  nAS : NoAttr K (CA K) "straight"
  gR : mg "Rest" = some (.ref (CR K))
  clR : Cls K (CR K)
  mkR : Mk K (CR K) (He.ma K (CR K) "__init__")
  nRS : NoAttr K (CR K) "straight"
  nRM : NoAttr K (CR K) "modulus"
  nRR : NoAttr K (CR K) "rest"
  gcd : mg "gcd" = some (.builtin "math.gcd")
  topM : ∃ t, mg "TOP_MODULUS" = some (.int 4 t)
section
variable (K : PySem.W.Frag)
def NewA (H : Hp) (a b c : Int) (Q : VK) : Prop := ∀ p H', Same H H' → AtlAt K H' p a b c → Q (.ref p) H'
def NewR (H : Hp) (a b m r : Int) (Q : VK) : Prop := ∀ p H', Same H H' → RstAt K H' p a b m r → Q (.ref p) H'
def spIntFrom : Sp := fun vs H Q _ => ∃ v lo hi : Int, vs = [.int v, .int lo, .int hi] ∧ Q (.bl (decide (lo ≤ v ∧ v ≤ hi))) H
def spAI : Sp := fun vs H Q _ => ∃ (p dx : Addr) (v : V) (a b c : Int), vs = [.ref p, v] ∧ H p = some (.ins (CA K) dx []) ∧ SumV K H v a b c ∧ g2 a b < 1073741824 ∧
  ∀ q H', H' p = some (.ins (CA K) dx (af q)) → StrAt K H' q (a.fdiv (g2 a b)) (b.fdiv (g2 a b)) (lf3 a b c) → Keep p H H' → Q .non H'
/-- what Rest(v, m, r) asks -/
def rRst (v : V) (m r : Int) (H : Hp) (ok : Int → Int → Int → Prop) (E : XK) : Prop := ∃ a b c, SumV K H v a b c ∧ (¬ (2 ≤ m ∧ m ≤ 4) → BadN K H "modulus" (.int m) E) ∧ (2 ≤ m → m ≤ 4 → ¬ (0 ≤ r ∧ r ≤ m - 1) → BadN K H "rest" (.int r) E) ∧ (2 ≤ m → m ≤ 4 → 0 ≤ r → r ≤ m - 1 → ok a b c)
def spRI : Sp := fun vs H Q E => ∃ (p dx : Addr) (v : V) (m r : Int), vs = [.ref p, v, .int m, .int r] ∧ H p = some (.ins (CR K) dx []) ∧
  rRst K v m r H (fun a b c => ∀ q H', H' p = some (.ins (CR K) dx (rf q m ((r - c).fmod m))) → StrAt K H' q (a.fmod m) (b.fmod m) 0 → Keep p H H' → Q .non H') E
end
end Z

set_option maxHeartbeats 4000000
namespace Z
open PySem PySem.Spec PyProof.Rows L2
section
variable {prog : Program} {w : World} {A : Around} {E : Value → Shared → Prop} {s : Shared} {x C : Addr} {K : PySem.W.Frag} {ox : Obj} {od : Option Obj} {name : Str} {pl : Sem Bool} {Q : Value × List Value → Shared → Prop}
/-- x.m(..) where m is no name of the class: what the field holds is called -/
theorem method_fld (X : K.In s.heap) (I : PySem.W.InstAt s.heap x ox C od) (hga : PySem.W.findIn K (.ref C) "__getattribute__" = some (some (.builtin "object.__getattribute__"))) (hk : PySem.W.findIn K (.ref C) "__getattr__" = some none)
    (hf : PySem.W.findIn K (.ref C) name = some none) (h : wpAny (model prog w) A (getAttr (.ref x) name) (fun u s' => Q (u, []) s') E s) : wpAny (model prog w) A (getMethod (.ref x) name pl) Q E s := by
  have hcan := PySem.F.canon_object_ga
  unfold getMethod specialOf
  refine wpAny_bind (wpAny_bind (I.type.here ((PySem.W.looks_findIn X hga).here ?_)))
  dsimp only
  rw [hcan, if_neg (by decide)]
  refine wpAny_bind (wpAny_bind (I.type.here ((PySem.W.looks_findIn X hk).here ?_)))
  refine wpAny_bind (wpAny_bind (I.type.here ((PySem.W.looks_findIn X hf).here ?_)))
  exact wpAny_bind (wpAny_mono h (fun u s' q => wpAny_pure q) fun _ _ z => z)
end
section
variable {X : Cx} {CX : CXT} {k : Nat} {g C2 : Addr} {sp : Sp} {E : XK} {o e : Expr} {es : List Expr} {m : Str} {apos pos : Pos} {ta : TE} {t : TA} {pl : Sem Bool}
/-- o.f(e, ..), f a field that holds an instance of C2 -/
def tFCall (X : Cx) (C2 : Addr) (m : Str) (sp : Sp) (E : XK) (ta : TE) (t : TA) : TE := fun σ H Q => ta σ H fun x H1 => ∃ a C dx fs q, x = .ref a ∧ H1 a = some (.ins C dx fs) ∧ Cls X.K C ∧ NoAttr X.K C m ∧ fs.lookup m = some (.ref q) ∧ t σ H1 fun vs H2 => (∃ dx fs, H2 q = some (.ins C2 dx fs)) ∧ sp (.ref q :: vs) H2 Q E
theorem pe_fcall (he : PE X o ta) (c : StX.CallO X.K C2 g) (F : FnR X.prog X.w X.K X.mg X.base CX k g sp) (hr : Room k X.A) (hx : Passes CX X E) (ha : PA X (e :: es) t)
    (ht : eval (.Call (.Attribute o m apos) (e :: es) [] pos) X.env = (do
      let ov ← eval o X.env
      standAt apos.atName
      let (f, first) ← holding [ov] (getMethod ov m pl)
      callWith pos f first (backTo pos (starEach (e :: es) X.env)) (backToKw pos (keywordEach [] X.env))) := by rfl)
    (hst : starEach (e :: es) X.env = (false, eval e X.env) :: starEach es X.env := by rfl) (hpl : (backTo pos (starEach es X.env)).any (·.1) = false := by rfl) :
    PE X (.Call (.Attribute o m apos) (e :: es) [] pos) (tFCall X C2 m sp E ta t) := by
  refine ⟨fun pins s σ H Q I h => ?_⟩
  refine PySem.W.methodCall_KW (pl := pl) (thn (he.run pins s σ H _ I h) fun u s1 ⟨x, H1, I1, rx, a, C, dx, fs, q, ex, ea, cl, na, l, q1⟩ => ?_) ht
  subst ex
  obtain rfl : u = Value.ref a := rx
  obtain ⟨od, J⟩ := ins_at I1 ea
  refine method_fld I1.kIn J (PySem.W.plainGet_of (cl.get m)).1 (PySem.W.plainGet_of (cl.get m)).2 na (getattr_ok I1 ea cl na l fun u' s2 I2 ru => ?_)
  obtain rfl : u' = Value.ref q := ru
  refine StX.callO_with (thn (ha.run pos pins s2 σ H1 _ I2 q1) fun us s3 ⟨vs, H2, I3, r, hi, q2⟩ => ?_) hst hpl
  have hi2 : StX.InsC X H2 q C2 := .inr hi
  obtain ⟨ox, od, J, hd⟩ := StX.insC_at I3 hi2
  exact ⟨⟨C2, ox, od, J, hd⟩, StX.run_callO c F hr hx I3 hi2 r q2⟩
end
end Z
namespace Z
open PySem PySem.Spec PyProof.Rows L2
section
variable {X : Cx} {K : PySem.W.Frag} {CX : CXT} {k : Nat} {f C : Addr} {fd : FuncData} {ps : List Str} {sp : Sp} {o e : Expr} {es : List Expr} {m : Str} {apos pos : Pos} {ta : TE} {t : TA} {pl : Sem Bool} {W : WX}
/-- o.m(e, ..) in a try, m a method that may raise -/
theorem pe_methT (tk : Takes X W) (hK : X.K = K) (he : PE X o ta) (c : Cls K C) (hm : Meth K C m f) (F : FnOk X.prog X.w K X.mg X.base (L2.CX X.prog X.w) k f fd ps sp) (hr : Room k X.A) (hb : Binds K fd ps []) (ha : PA X (e :: es) t)
    (ht : eval (.Call (.Attribute o m apos) (e :: es) [] pos) X.env = (do
      let ov ← eval o X.env
      standAt apos.atName
      let (f, first) ← holding [ov] (getMethod ov m pl)
      callWith pos f first (backTo pos (starEach (e :: es) X.env)) (backToKw pos (keywordEach [] X.env))) := by rfl)
    (hst : starEach (e :: es) X.env = (false, eval e X.env) :: starEach es X.env := by rfl) (hpl : (backTo pos (starEach es X.env)).any (·.1) = false := by rfl) :
    PE X (.Call (.Attribute o m apos) (e :: es) [] pos) (fun σ H Q => ta σ H fun x H1 => ∃ a dx fs, x = .ref a ∧ H1 a = some (.ins C dx fs) ∧ fs.lookup m = none ∧ t σ H1 fun vs H2 => sp (x :: vs) H2 Q (WE W σ)) := by
  subst hK
  refine ⟨fun pins s σ H Q I h => ?_⟩
  refine PySem.W.methodCall_KW (pl := pl) (thn (he.run pins s σ H _ I h) fun u s1 ⟨x, H1, I1, rx, a, dx, fs, ex, ea, l, q⟩ => ?_) ht
  subst ex
  obtain rfl : u = Value.ref a := rx
  refine getmeth_ok I1 ea c hm l ?_
  refine PySem.W.callWith_K (first := [.ref a]) (h₀ := X.base) I.ok.mod.kin hm.kp (thn (ha.run pos pins s1 σ H1 _ I1 q) fun us s2 ⟨vs, H2, I2, r, q2⟩ => ⟨I2.kIn, ?_⟩) hst hpl
  exact run_fnS (E := WE W) (us := .ref a :: us) (vs := .ref a :: vs) F hr hb (passAt tk σ) I2 (.cons rfl r) q2
end
theorem if_w {b : Bool} {A : Prop} {j : Int} {σ : L2.St} {H : Hp} {Q : VK} (W : Int → Hp → Prop) (h1 : (∀ v H', W v H' → Q (.int v) H') → A) (h2 : b = false → W j H) (h3 : ∀ v H', W v H' → Q (.int v) H') : if b = true then A else tC (.int j) σ H Q := by
  cases b
  · exact h3 _ _ (h2 rfl)
  · exact h1 h3
end Z

set_option maxHeartbeats 4000000
namespace Z
open PySem PySem.Spec PyProof.Rows L2
/-! ### ranges with a step -/
theorem lc_rangeC {lo c : Int} {n : Nat} {g : TG} {tt : TT} {te : TE} {vs : List Nat} {σ : L2.St} {H1 : Hp} {D : Addr} {Qd : Hp → Prop} (Pv : Nat → Hp → Prop) (h0 : Pv 0 (upd H1 D (.lst [])))
    (hs : ∀ i H, i < n → Pv i H → g (.int (lo + (i : Nat) * c)) (wipe σ vs) H fun σ2 H2 => wipe σ2 vs = wipe σ vs ∧ tt σ2 H2 fun b H3 =>
      if b = true then te σ2 H3 fun y H4 => ∃ acc, H4 D = some (.lst acc) ∧ acc.length < sizeLine ∧ Pv (i + 1) (upd H4 D (.lst (acc ++ [y]))) else Pv (i + 1) H3) (hd : ∀ H, Pv n H → Qd H) :
    ∃ W : Nat → Nat → Hp → Prop, (∃ m, W 0 m (upd H1 D (.lst []))) ∧ ∀ i m H, W i m H →
      ((Itc lo c n).stop i H ∧ Qd H) ∨ ((Itc lo c n).go i H ∧ ∃ Nx : Hp → Prop, (∀ H', Nx H' → ∃ m', m' < m ∧ W (i + 1) m' H') ∧ ∀ x H', (Itc lo c n).yld i H x H' → g x (wipe σ vs) H' fun σ2 H2 => wipe σ2 vs = wipe σ vs ∧ tt σ2 H2 fun b H3 =>
        if b = true then te σ2 H3 fun y H4 => ∃ acc, H4 D = some (.lst acc) ∧ acc.length < sizeLine ∧ Nx (upd H4 D (.lst (acc ++ [y]))) else Nx H3) := by
  refine ⟨fun i m H => m = n - i ∧ i ≤ n ∧ Pv i H, ⟨n, by simp, Nat.zero_le _, h0⟩, ?_⟩
  rintro i m H ⟨rfl, hi, p⟩
  by_cases hlt : i < n
  · refine .inr ⟨hlt, Pv (i + 1), fun H' p' => ⟨n - (i + 1), by omega, rfl, hlt, p'⟩, fun x H' y => ?_⟩
    obtain ⟨e, y⟩ := y
    subst e y
    exact hs i _ hlt p
  · have e : i = n := by omega
    subst e
    exact .inl ⟨Nat.le_refl _, hd H p⟩
/-- how many numbers a range with a step has -/
def rn_ (lo hi c : Int) : Int := Builtin.Range.rangeSize lo hi c
theorem rn_pos {lo hi c : Int} (hc : 1 ≤ c) : rn_ lo hi c = if lo < hi then (hi - lo - 1) / c + 1 else 0 := by
  unfold rn_ Builtin.Range.rangeSize
  rw [if_pos (by omega)]
theorem rn_nn {lo hi c : Int} (hc : 1 ≤ c) : 0 ≤ rn_ lo hi c := by
  rw [rn_pos hc]
  split
  · have := Int.ediv_nonneg (show 0 ≤ hi - lo - 1 by omega) (show 0 ≤ c by omega)
    omega
  · exact Int.le_refl 0
/-- the count of the turns from l on -/
theorem turns_eq {l h S : Int} (hS : 1 ≤ S) : (if -((l - h).fdiv S) > 0 then -((l - h).fdiv S) else 0) = rn_ l h S := by
  rw [rn_pos hS, fe (show 0 < S by omega)]
  by_cases c : l < h
  · rw [if_pos c]
    have e : (l - h) / S = -((h - l - 1) / S) - 1 := by
      have h1 := Int.emod_add_mul_ediv (h - l - 1) S
      have h2 := Int.emod_nonneg (h - l - 1) (show S ≠ 0 by omega)
      have h3 := Int.emod_lt_of_pos (h - l - 1) (show 0 < S by omega)
      have h4 : l - h = (S - 1 - (h - l - 1) % S) + S * (-((h - l - 1) / S) - 1) := by
        rw [Int.mul_sub, Int.mul_neg, Int.mul_one]
        omega
      rw [h4, Int.add_mul_ediv_left _ _ (show S ≠ 0 by omega), Int.ediv_eq_zero_of_lt (by omega) (by omega)]
      omega
    have n := Int.ediv_nonneg (show 0 ≤ h - l - 1 by omega) (show 0 ≤ S by omega)
    rw [e, if_pos (by omega)]
    omega
  · rw [if_neg c]
    have n := Int.ediv_nonneg (show 0 ≤ l - h by omega) (show 0 ≤ S by omega)
    rw [if_neg (by omega)]
/-- the numbers of the walk that are not below 0 -/
def walk (lo c : Int) (i : Nat) : List Int := ((List.range i).map fun (j : Nat) => lo + (j : Int) * c).filter fun x => decide (0 ≤ x)
theorem walk_succ (lo c : Int) (i : Nat) : walk lo c (i + 1) = if 0 ≤ lo + (i : Int) * c then walk lo c i ++ [lo + (i : Int) * c] else walk lo c i := by
  unfold walk
  rw [List.range_succ, List.map_append, List.filter_append]
  by_cases h : 0 ≤ lo + (i : Int) * c
  · rw [if_pos h]
    simp [h]
  · rw [if_neg h]
    simp [h]
/-- from the place k on, at which the least counter stands -/
theorem walk_eq {lo c l : Int} {k : Nat} (hc : 1 ≤ c) (h0 : 0 ≤ l) (hk : l = lo + (k : Int) * c) (hl : k = 0 ∨ l < c) : ∀ i, walk lo c i = (List.range (i - k)).map fun (j : Nat) => l + (j : Int) * c
  | 0 => by
    rw [Nat.zero_sub]
    rfl
  | i + 1 => by
    rw [walk_succ, walk_eq hc h0 hk hl i]
    by_cases h : k ≤ i
    · have e : lo + (i : Int) * c = l + ((i - k : Nat) : Int) * c := by
        rw [hk, Int.natCast_sub h, Int.sub_mul]
        omega
      have nn : 0 ≤ ((i - k : Nat) : Int) * c := Int.mul_nonneg (by omega) (by omega)
      rw [e, if_pos (by omega), Nat.succ_sub h, List.range_succ, List.map_append]
      rfl
    · have h1 : k ≠ 0 := by omega
      have h2 : l < c := hl.resolve_left h1
      have e : lo + (i : Int) * c < 0 := by
        have e2 : (i : Int) * c ≤ ((k : Int) - 1) * c := Int.mul_le_mul_of_nonneg_right (by omega) (by omega)
        rw [Int.sub_mul, Int.one_mul] at e2
        omega
      rw [if_neg (by omega), show i + 1 - k = 0 by omega, show i - k = 0 by omega]
end Z
namespace Z
open PySem PySem.Spec PyProof.Rows L2
theorem rgc_pos {i j c : Int} (hc : 1 ≤ c) (hc2 : c ≤ 100) (a1 : -(2 ^ 40) ≤ i) (a2 : i ≤ 2 ^ 40) (b1 : -(2 ^ 40) ≤ j) (b2 : j ≤ 2 ^ 40) : RgC i j c (rn_ i j c).toNat := by
  have nn := rn_nn (lo := i) (hi := j) hc
  refine ⟨by omega, by omega, ?_, by show rn_ i j c = _; omega⟩
  have lt : rn_ i j c ≤ 2 ^ 42 := by
    rw [rn_pos hc]
    split
    · have := Int.ediv_le_self c (show 0 ≤ j - i - 1 by omega)
      omega
    · omega
  unfold Builtin.Range.small
  have e : Builtin.Range.rangeSize i j c = rn_ i j c := rfl
  rw [e]
  simp only [Builtin.Range.rangeFitsLong, Bool.and_eq_true, Bool.or_eq_true, decide_eq_true_eq, beq_iff_eq]
  rw [if_pos (show c > 0 by omega)]
  simp only [Bool.and_eq_true, decide_eq_true_eq]
  exact ⟨by omega, .inr (by omega)⟩
end Z

set_option maxHeartbeats 4000000
namespace K22
open PySem PySem.Spec PyProof.Rows L2 Z
def top (i : Nat) : Stmt := PySem.Challenge.pw_loopsize_k22_turns_of_loops.main.body.getD i (.Pass ⟨0, 0, 0, 0⟩)
abbrev s_wall : Stmt := top 1
abbrev s_is_integer : Stmt := top 7
abbrev s_is_integer_from : Stmt := top 8
abbrev s_is_straight : Stmt := top 12
abbrev s_straight_like : Stmt := top 13
abbrev s_place_like : Stmt := top 14
abbrev s_value_of : Stmt := top 15
abbrev s_added : Stmt := top 16
abbrev s_turns_from : Stmt := top 24
abbrev s_check_many : Stmt := top 25
abbrev s_check_number : Stmt := top 26
abbrev s_check_range_place : Stmt := top 27
abbrev s_law_pen : Stmt := top 29
abbrev s_law_draw : Stmt := top 30
abbrev s_law_big : Stmt := top 31
abbrev s_law_integer : Stmt := top 32
abbrev s_law_counters : Stmt := top 33
abbrev s_law_range_row : Stmt := top 34
abbrev s_law_refused_turn : Stmt := top 35
abbrev s_law_small_right : Stmt := top 36
abbrev s_law_far_right : Stmt := top 37
abbrev s_law : Stmt := top 38
abbrev iBadNumber__init__ : Stmt := inClass (top 4) 0
abbrev iTooMany__init__ : Stmt := inClass (top 5) 0
abbrev iStraight__init__ : Stmt := inClass (top 10) 0
abbrev iStraight__call__ : Stmt := inClass (top 10) 1
abbrev iStraight__eq__ : Stmt := inClass (top 10) 2
abbrev iStraight__add__ : Stmt := inClass (top 10) 3
abbrev iStraight__radd__ : Stmt := inClass (top 10) 4
abbrev iStraight__sub__ : Stmt := inClass (top 10) 5
abbrev iStraight__rsub__ : Stmt := inClass (top 10) 6
abbrev iStraight__neg__ : Stmt := inClass (top 10) 7
abbrev iStraight__mul__ : Stmt := inClass (top 10) 8
abbrev iStraight__rmul__ : Stmt := inClass (top 10) 9
abbrev iStraight__floordiv__ : Stmt := inClass (top 10) 10
abbrev iStraightreplaced : Stmt := inClass (top 10) 11
abbrev iPlace__init__ : Stmt := inClass (top 11) 0
abbrev iPlace__call__ : Stmt := inClass (top 11) 1
abbrev iPlace__eq__ : Stmt := inClass (top 11) 2
abbrev iPlacereplaced : Stmt := inClass (top 11) 3
abbrev iLoop__init__ : Stmt := inClass (top 23) 0
abbrev iLoopmany_turns : Stmt := inClass (top 23) 1
abbrev iLoopcounter_of : Stmt := inClass (top 23) 2
abbrev iLoopturn_of : Stmt := inClass (top 23) 3
abbrev iLoopleast_counter : Stmt := inClass (top 23) 4
def d_wall : He.DefD := ⟨("_wall", none), "_wall", "_wall", defArgs s_wall, defBody s_wall, defScope s_wall, [], []⟩
def d_is_integer : He.DefD := ⟨("is_integer", none), "is_integer", "is_integer", defArgs s_is_integer, defBody s_is_integer, defScope s_is_integer, [], []⟩
def d_is_integer_from : He.DefD := ⟨("is_integer_from", none), "is_integer_from", "is_integer_from", defArgs s_is_integer_from, defBody s_is_integer_from, defScope s_is_integer_from, [], []⟩
def d_is_straight : He.DefD := ⟨("is_straight", none), "is_straight", "is_straight", defArgs s_is_straight, defBody s_is_straight, defScope s_is_straight, [], []⟩
def d_straight_like : He.DefD := ⟨("straight_like", none), "straight_like", "straight_like", defArgs s_straight_like, defBody s_straight_like, defScope s_straight_like, [], []⟩
def d_place_like : He.DefD := ⟨("place_like", none), "place_like", "place_like", defArgs s_place_like, defBody s_place_like, defScope s_place_like, [], []⟩
def d_value_of : He.DefD := ⟨("value_of", none), "value_of", "value_of", defArgs s_value_of, defBody s_value_of, defScope s_value_of, [], []⟩
def d_added : He.DefD := ⟨("added", none), "added", "added", defArgs s_added, defBody s_added, defScope s_added, [], []⟩
def d_turns_from : He.DefD := ⟨("turns_from", none), "turns_from", "turns_from", defArgs s_turns_from, defBody s_turns_from, defScope s_turns_from, [], []⟩
def d_check_many : He.DefD := ⟨("check_many", none), "check_many", "check_many", defArgs s_check_many, defBody s_check_many, defScope s_check_many, [], []⟩
def d_check_number : He.DefD := ⟨("check_number", none), "check_number", "check_number", defArgs s_check_number, defBody s_check_number, defScope s_check_number, [], []⟩
def d_check_range_place : He.DefD := ⟨("check_range_place", none), "check_range_place", "check_range_place", defArgs s_check_range_place, defBody s_check_range_place, defScope s_check_range_place, [], []⟩
def d_law_pen : He.DefD := ⟨("_law_pen", none), "_law_pen", "_law_pen", defArgs s_law_pen, defBody s_law_pen, defScope s_law_pen, [], []⟩
def d_law_draw : He.DefD := ⟨("_law_draw", none), "_law_draw", "_law_draw", defArgs s_law_draw, defBody s_law_draw, defScope s_law_draw, [], []⟩
def d_law_big : He.DefD := ⟨("_law_big", none), "_law_big", "_law_big", defArgs s_law_big, defBody s_law_big, defScope s_law_big, [], []⟩
def d_law_integer : He.DefD := ⟨("_law_integer", none), "_law_integer", "_law_integer", defArgs s_law_integer, defBody s_law_integer, defScope s_law_integer, [], []⟩
def d_law_counters : He.DefD := ⟨("_law_counters", none), "_law_counters", "_law_counters", defArgs s_law_counters, defBody s_law_counters, defScope s_law_counters, [], []⟩
def d_law_range_row : He.DefD := ⟨("_law_range_row", none), "_law_range_row", "_law_range_row", defArgs s_law_range_row, defBody s_law_range_row, defScope s_law_range_row, [], []⟩
def d_law_refused_turn : He.DefD := ⟨("_law_refused_turn", none), "_law_refused_turn", "_law_refused_turn", defArgs s_law_refused_turn, defBody s_law_refused_turn, defScope s_law_refused_turn, [], []⟩
def d_law_small_right : He.DefD := ⟨("_law_small_right", none), "_law_small_right", "_law_small_right", defArgs s_law_small_right, defBody s_law_small_right, defScope s_law_small_right, [], []⟩
def d_law_far_right : He.DefD := ⟨("_law_far_right", none), "_law_far_right", "_law_far_right", defArgs s_law_far_right, defBody s_law_far_right, defScope s_law_far_right, [], []⟩
def d_law : He.DefD := ⟨("law", none), "law", "law", defArgs s_law, defBody s_law, defScope s_law, [], []⟩
def dBadNumber__init__ : He.DefD := ⟨("BadNumber", some "__init__"), "__init__", "BadNumber.__init__", defArgs iBadNumber__init__, defBody iBadNumber__init__, defScope iBadNumber__init__, [], []⟩
def dTooMany__init__ : He.DefD := ⟨("TooMany", some "__init__"), "__init__", "TooMany.__init__", defArgs iTooMany__init__, defBody iTooMany__init__, defScope iTooMany__init__, [], []⟩
def dStraight__init__ : He.DefD := ⟨("Straight", some "__init__"), "__init__", "Straight.__init__", defArgs iStraight__init__, defBody iStraight__init__, defScope iStraight__init__, [], []⟩
def dPlace__init__ : He.DefD := ⟨("Place", some "__init__"), "__init__", "Place.__init__", defArgs iPlace__init__, defBody iPlace__init__, defScope iPlace__init__, [], []⟩
def dPlace__call__ : He.DefD := ⟨("Place", some "__call__"), "__call__", "Place.__call__", defArgs iPlace__call__, defBody iPlace__call__, defScope iPlace__call__, [], []⟩
def dLoop__init__ : He.DefD := ⟨("Loop", some "__init__"), "__init__", "Loop.__init__", defArgs iLoop__init__, defBody iLoop__init__, defScope iLoop__init__, [], [("step", .int 1), ("down", .bl false)]⟩
def dLoopmany_turns : He.DefD := ⟨("Loop", some "many_turns"), "many_turns", "Loop.many_turns", defArgs iLoopmany_turns, defBody iLoopmany_turns, defScope iLoopmany_turns, [], []⟩
def dLoopcounter_of : He.DefD := ⟨("Loop", some "counter_of"), "counter_of", "Loop.counter_of", defArgs iLoopcounter_of, defBody iLoopcounter_of, defScope iLoopcounter_of, [], []⟩
def dLoopturn_of : He.DefD := ⟨("Loop", some "turn_of"), "turn_of", "Loop.turn_of", defArgs iLoopturn_of, defBody iLoopturn_of, defScope iLoopturn_of, [], []⟩
def dLoopleast_counter : He.DefD := ⟨("Loop", some "least_counter"), "least_counter", "Loop.least_counter", defArgs iLoopleast_counter, defBody iLoopleast_counter, defScope iLoopleast_counter, [], []⟩
def fn0 : List He.DefD := [d_wall, d_is_integer, d_is_integer_from, d_is_straight, d_straight_like, d_place_like, d_value_of, d_added]
def fn1 : List He.DefD := [d_turns_from, d_check_many, d_check_number, d_check_range_place, d_law_pen, d_law_draw, d_law_big, d_law_integer]
def fn2 : List He.DefD := [d_law_counters, d_law_range_row, d_law_refused_turn, d_law_small_right, d_law_far_right, d_law, dBadNumber__init__, dTooMany__init__]
def fn3 : List He.DefD := [dStraight__init__, dPlace__init__, dPlace__call__, dLoop__init__, dLoopmany_turns, dLoopcounter_of, dLoopturn_of, dLoopleast_counter]
def fn : List He.DefD := fn0 ++ fn1 ++ fn2 ++ fn3
def glos0 : List Str := ["LoopError", "BadNumber", "TooMany", "Straight", "Place", "Loop", "_wall", "is_integer"]
def glos1 : List Str := ["is_integer_from", "is_straight", "straight_like", "place_like", "value_of", "added", "turns_from", "check_many"]
def glos2 : List Str := ["check_number", "check_range_place", "_law_pen", "_law_draw", "_law_big", "_law_integer", "_law_counters", "_law_range_row"]
def glos3 : List Str := ["_law_refused_turn", "_law_small_right", "_law_far_right", "law"]
def glos : List Str := glos0 ++ glos1 ++ glos2 ++ glos3
def frees0 : List Str := ["int", "len", "list", "isinstance", "range", "str", "bool", "max"]
def frees1 : List Str := ["tuple", "divmod", "all"]
def frees : List Str := frees0 ++ frees1
def owns0 : List Str := ["Straight", "Place", "Loop"]
def owns : List Str := owns0
def atts0 : List (Str × Str) := [("Straight", "i"), ("Straight", "n"), ("Straight", "one"), ("Place", "straight"), ("Place", "divisor"), ("Loop", "low"), ("Loop", "high"), ("Loop", "statements")]
def atts1 : List (Str × Str) := [("Loop", "step"), ("Loop", "down")]
def atts : List (Str × Str) := atts0 ++ atts1
def mets0 : List (Str × Str) := [("Straight", "__init__"), ("Place", "__init__"), ("Place", "__call__"), ("Loop", "__init__"), ("Loop", "many_turns"), ("Loop", "counter_of"), ("Loop", "turn_of"), ("Loop", "least_counter")]
def mets : List (Str × Str) := mets0
def oprs0 : List (Str × String) := []
def oprs : List (Str × String) := oprs0
def excs0 : List (Str × List Str) := [("BadNumber", ["what", "number"]), ("TooMany", ["what", "many", "limit"])]
def excs : List (Str × List Str) := excs0
def kits (K : PySem.W.Frag) : Bool := true && decide (PySem.W.kitOne K (.ref (He.ga K "Straight")) (.type "int") = some false) && decide (PySem.W.kitOne K (.ref (He.ga K "Straight")) (.ref (He.ga K "Straight")) = some true) && decide (PySem.W.kitOne K (.ref (He.ga K "Straight")) (.ref (He.ga K "Place")) = some false) && decide (PySem.W.kitOne K (.ref (He.ga K "Place")) (.ref (He.ga K "Place")) = some true) && decide (PySem.W.kitOne K (.ref (He.ga K "Place")) (.ref (He.ga K "Straight")) = some false) && decide (PySem.W.kitOne K (.ref (He.ga K "Place")) (.type "int") = some false) && decide (PySem.W.kitOne K (.type "int") (.ref (He.ga K "Place")) = some false) && decide (PySem.W.kitOne K (.type "int") (.ref (He.ga K "Straight")) = some false) && decide (PySem.W.kitOne K (.type "int") (.type "int") = some true) && decide (PySem.W.kitOne K (.type "int") (.type "bool") = some false)
def insB (K : PySem.W.Frag) (C : Addr) : Bool := He.eqO (PySem.W.findIn K (.ref C) "__class__") (some (some (.builtin "object.__class__"))) && (He.eqO (PySem.W.specialIn K (.builtin "object.__class__") "__get__") (some (some (.builtin "getset_descriptor.__get__"))) && (decide (PySem.W.takesIn K (.builtin "object.__class__") = some true) && decide (PySem.W.mroIn K C (.type "object") = some true)))
def fa : List FaK := [
  fun K => glos.all fun x => (He.Fa.glo x).ok K,
  fun K => frees.all fun x => (He.Fa.free x).ok K,
  fun K => owns.all fun x => (He.Fa.cls x).ok K && ((He.Fa.mkr x).ok K && insB K (He.ga K x)),
  fun K => atts.all fun q => (He.Fa.noat q.1 q.2).ok K,
  fun K => mets.all fun q => (He.Fa.meth q.1 q.2).ok K,
  fun K => oprs.all fun q => opiB K (He.ga K q.1) q.2,
  fun K => excs.all fun q => exkB K (He.ga K q.1) && (oexB K (He.ga K q.1) && (He.eqO (PySem.W.findIn K (.ref (He.ga K q.1)) "__init__") (some (some (.ref (He.ma K (He.ga K q.1) "__init__")))) && (decide (PySem.W.typeIn K (.ref (He.ma K (He.ga K q.1) "__init__")) = some (.type "function")) &&
    q.2.all fun f => He.eqO (PySem.W.findIn K (.ref (He.ga K q.1)) f) (some none)))),
  kits,
  fun K => He.eqO (PySem.W.nsIn K mainGlobals "gcd") (some (some (.builtin "math.gcd"))),
  fun K => decide (PySem.W.exmOne K (.ref (He.ga K "BadNumber")) (.ref (He.ga K "BadNumber")) = some true),
  fun K => ([("TOP_ONE", 999), ("TOP_RANGE_PART", 3), ("TOP_DIVISOR", 3), ("TOP_STEP", 16), ("MOST_STATEMENTS", 16)] : List (Str × Int)).all fun q => (match PySem.W.nsIn K mainGlobals q.1 with | some (some (.int i _)) => decide (i = q.2) | _ => false)]
abbrev R : PySem.W.OpenRow := PySem.W.OpenLaw.row PySem.Challenge.rw_loopsize_k22_turns_of_loops
abbrev hk : PySem.W.Hook := hookX 5 fa fn
def ob (s : PySem.W.SharedT) : He.AlD := obsXG 5 fa fn (HandSHeadRun.getT s)
theorem ob_eq (s : PySem.W.SharedT) : ob s = hk.obs s.abs := obsXG_eq (HandSHeadRun.getT_eq s)
def names0 : List Str := ["_wall", "LoopError", "BadNumber", "TooMany", "is_integer", "is_integer_from", "Straight", "Place"]
def names1 : List Str := ["is_straight", "straight_like", "place_like", "value_of", "added", "Loop", "turns_from", "check_many"]
def names2 : List Str := ["check_number", "check_range_place", "_law_pen", "_law_draw", "_law_big", "_law_integer", "_law_counters", "_law_range_row"]
def names3 : List Str := ["_law_refused_turn", "_law_small_right", "_law_far_right", "TOP_ONE", "TOP_DIVISOR", "TOP_RANGE_PART", "TOP_STEP", "MOST_STATEMENTS"]
def names : List Str := names0 ++ names1 ++ names2 ++ names3
end K22

set_option maxHeartbeats 4000000
namespace K22
open PySem PySem.Spec PyProof.Rows L2 Z
/-! ### what the text has written -/
abbrev FnP (K : PySem.W.Frag) (x : Str) (st : Stmt) (f : Addr) (fd : FuncData) : Prop := FunD K x x (defArgs st) (defBody st) (defScope st) [] [] f fd
/-- the built-in names that are still their own -/
structure Bt (mg : Str → Option Value) : Prop where
  int : mg "int" = none
  len : mg "len" = none
  list : mg "list" = none
section
variable {P : Program} {w : World} {K : PySem.W.Frag} {mg : Str → Option Value} {base : Heap}
theorem sc_law_pen : FnScope ["_law_script"] ["_law_script"] (defScope s_law_pen) := ⟨rfl, rfl, rfl, by decide +kernel, rfl, by decide +kernel, by decide +kernel⟩
theorem ok_pen {f : Addr} {fd : FuncData} (F : FnP K "_law_pen" s_law_pen f fd) (T : Bt mg) : FnOk P w K mg base CX0 1 f fd ["_law_script"] (spPen K) := by
  refine F.ok sc_law_pen (fun vs H Q E h => ?_) (fun cdv A outer s H vs Q E hr h => ?_)
  · obtain ⟨a, ns, rfl, _⟩ := h
    rfl
  · obtain ⟨a, ns, rfl, hS, hl, k⟩ := h
    have hu := hu_of hr
    refine ⟨_, PSs.nox (pss_one (ps_ret (pe_disp (pps_cons pe_str (pe_callTy call_list_of (by rfl) T.list (by decide +kernel) (pa_cons (pe_slice sl_list (pv 0) po_none (po_some pe_int)) pa_nil)) (pps_cons pe_str pe_int (pps_cons pe_str pe_int pps_nil))) (by rfl) (by rfl) (fun z => by cases z) (by decide)))), ?_⟩
    intro p hp
    refine ⟨_, rfl, _, rfl, a, ns.map V.int, rfl, ?_, fun q hq => ⟨q, _, rfl, .inl (SqL.of upd_same), fun l hl2 => ?_⟩⟩
    · exact Same.seq (Same.new _ (Same.refl H) hp) hS
    have npq : p ≠ q := fun z => by
      rw [← z, upd_same] at hq
      cases hq
    have npl : p ≠ l := fun z => by
      rw [← z, upd_ne npq, upd_same] at hl2
      cases hl2
    refine ⟨(by rw [upd_ne npl, upd_ne npq, upd_same]), penK l 0 0, rfl, (by show 3 ≤ 15; decide), ?_⟩
    have em : mergeK [] (penK l 0 0) = penK l 0 0 := by
      show putK (putK (putK [] (Sum.inr "cells" : Key) (.ref l)) (Sum.inr "at" : Key) (.int 0)) (Sum.inr "left" : Key) (.int 0) = penK l 0 0
      have e1 : putK ([] : List (Key × V)) (Sum.inr "cells" : Key) (.ref l) = [((Sum.inr "cells" : Key), V.ref l)] := putK_new (kvs := []) _ rfl
      have e2 : putK [((Sum.inr "cells" : Key), V.ref l)] (Sum.inr "at" : Key) (.int 0) = [((Sum.inr "cells" : Key), V.ref l), (Sum.inr "at", V.int 0)] := putK_new _ (by
        rw [valV_neg (key_ne ca_)]
        rfl)
      have e3 : putK [((Sum.inr "cells" : Key), V.ref l), (Sum.inr "at", V.int 0)] (Sum.inr "left" : Key) (.int 0) = penK l 0 0 := putK_new _ (by
        rw [valV_neg (key_ne cl_), valV_neg (key_ne al_)]
        rfl)
      rw [e1, e2, e3]
    rw [em]
    have hc : (cutV (ns.map V.int) none (some 63)) = (ns.map V.int) := by
      unfold cutV
      have e1 : HT.sIx (ns.map V.int).length 0 none = 0 := HT.sIx_none _ _
      have e2 : HT.sIx (ns.map V.int).length (ns.map V.int).length (some 63) = min 63 (ns.map V.int).length := HT.sIx_nat _ _ 63
      rw [e1, e2, List.drop_zero, List.length_map, Nat.sub_zero, Nat.min_eq_right hl, ← List.length_map (f := V.int), List.take_length]
    rw [hc]
    refine k _ p (fun b o e => ?_) hp ⟨l, ns, 0, 0, upd_same, by rw [upd_ne npl.symm, upd_same], hl, Int.le_refl 0, Int.le_refl 0, Int.le_refl 0⟩
    have nbp : b ≠ p := ne_of_none e hp
    have nbq : b ≠ q := fun z => by
      rw [← z, upd_ne nbp] at hq
      rw [hq] at e
      cases e
    have nbl : b ≠ l := fun z => by
      rw [← z, upd_ne nbq, upd_ne nbp] at hl2
      rw [hl2] at e
      cases e
    rw [upd_ne nbp, upd_ne nbl, upd_ne nbq, upd_ne nbp]
    exact e
theorem sc_law_draw : FnScope ["_law_pen_here", "_law_many", "_law_digit", "_law_spot", "_law_cell", "_law_mixed"] ["_law_pen_here", "_law_many"] (defScope s_law_draw) := ⟨rfl, rfl, rfl, by decide +kernel, rfl, by decide +kernel, by decide +kernel⟩
theorem ok_draw {f : Addr} {fd : FuncData} (F : FnP K "_law_draw" s_law_draw f fd) (T : Bt mg) : FnOk P w K mg base CX0 1 f fd ["_law_pen_here", "_law_many"] spDraw := by
  refine F.ok sc_law_draw (fun vs H Q E h => ?_) (fun cdv A outer s H vs Q E hr h => ?_)
  · obtain ⟨p, m, t, rfl, _⟩ := h
    rfl
  · obtain ⟨p, m, t, rfl, hm, hm2, ht, hP, k⟩ := h
    obtain ⟨c, ns, a, l, h1, h2, h3, h4, h5, h6⟩ := id hP
    have hu := hu_of hr
    have m0 : m ≠ 0 := by omega
    have mb : m.natAbs < 1073741824 := by omega
    have ncp : c ≠ p := ne_of h2 h1 lst_ne_dK
    have z1 : (2147483629 : Int) ≠ 0 := by decide
    have z2 : (2147483647 : Int) ≠ 0 := by decide
    have z3 : (2147483587 : Int) ≠ 0 := by decide
    have z4 : (2147483563 : Int) ≠ 0 := by decide
    refine ⟨_, PSs.nox (pss_cons (ps_if (pt_cmpR op_ge (pe_dget hu (pv 0) pe_str (fun _ _ => rfl)) (pv 1) (nomark _)) (pss_cons (ps_set (i := 2) sc_law_draw.nd rfl (Or.inl rfl) (pe_op op_modN (pe_callTy call_int1 (by rfl) T.int (by decide +kernel) (pa_cons (pe_dget hu (pv 0) pe_str (fun _ _ => rfl)) pa_nil)) (pv 1)))
      (pss_cons (ps_dput hu (pv 0) pe_str (pe_op op_fdivN (pe_dget hu (pv 0) pe_str (fun _ _ => rfl)) (pv 1)) rfl)
      (pss_one (ps_ret (pv 2))))) pss_nil)
      (pss_cons (ps_set (i := 3) sc_law_draw.nd rfl (Or.inl rfl) (pe_dget hu (pv 0) pe_str (fun _ _ => rfl)))
      (pss_cons (ps_dput hu (pv 0) pe_str (pe_op op_add (pv 3) pe_int) rfl)
      (pss_cons (ps_if (pt_cmpR (op_eqD hr.units) (pe_dget hu (pv 0) pe_str (fun _ _ => rfl)) (pe_lst pa_nil) (nomark _)) (pss_one (ps_ret (pe_op op_modN (pe_callTy call_int1 (by rfl) T.int (by decide +kernel) (pa_cons (pe_op op_add (pe_op op_mul pe_int (pv 3)) pe_int) pa_nil)) (pv 1)))) pss_nil)
      (pss_cons (ps_set (i := 4) sc_law_draw.nd rfl (Or.inl rfl) (pe_ix ix_list (pe_dget hu (pv 0) pe_str (fun _ _ => rfl)) (pe_op op_modN (pe_callTy call_int1 (by rfl) T.int (by decide +kernel) (pa_cons (pv 3) pa_nil)) (pe_callB call_len_seq (by rfl) T.len PySem.boot_len (pa_cons (pe_dget hu (pv 0) pe_str (fun _ _ => rfl)) pa_nil))) (fun _ _ => rfl)))
      (pss_cons (ps_if (PW.pt (pw_and (pt_cmpR op_lt (pv 3) (pe_callB call_len_seq (by rfl) T.len PySem.boot_len (pa_cons (pe_dget hu (pv 0) pe_str (fun _ _ => rfl)) pa_nil)) (nomark _)) (pw_and1 (pt_cmpR op_ge (pv 4) (pe_op op_pow pe_int pe_int) (nomark _))))) (pss_cons (ps_dput hu (pv 0) pe_str (pe_op op_fdivN (pe_op op_sub (pv 4) (pe_op op_pow pe_int pe_int)) (pv 1)) rfl)
      (pss_one (ps_ret (pe_op op_modN (pe_callTy call_int1 (by rfl) T.int (by decide +kernel) (pa_cons (pe_op op_sub (pv 4) (pe_op op_pow pe_int pe_int)) pa_nil)) (pv 1))))) pss_nil)
      (pss_cons (ps_set (i := 5) sc_law_draw.nd rfl (Or.inl rfl) (pe_op op_add (pe_op op_add (pe_op op_mul (pe_op op_add (pe_op op_modN (pe_callTy call_int1 (by rfl) T.int (by decide +kernel) (pa_cons (pv 4) pa_nil)) pe_int) pe_int) (pe_op op_add (pe_op op_mul pe_int (pv 3)) pe_int)) (pe_op op_mul (pe_op op_mul pe_int (pv 3)) (pv 3))) pe_int))
      (pss_cons (ps_set (i := 5) sc_law_draw.nd rfl (Or.inl rfl) (pe_op op_modN (pe_callTy call_int1 (by rfl) T.int (by decide +kernel) (pa_cons (pv 5) pa_nil)) pe_int))
      (pss_cons (ps_set (i := 5) sc_law_draw.nd rfl (Or.inl rfl) (pe_op op_modN (pe_callTy call_int1 (by rfl) T.int (by decide +kernel) (pa_cons (pe_op op_mul (pv 5) (pe_op op_add (pv 5) pe_int)) pa_nil)) pe_int))
      (pss_cons (ps_set (i := 5) sc_law_draw.nd rfl (Or.inl rfl) (pe_op op_modN (pe_callTy call_int1 (by rfl) T.int (by decide +kernel) (pa_cons (pe_op op_mul (pv 5) (pv 5)) pa_nil)) pe_int))
      (pss_one (ps_ret (pe_op op_modN (pe_callTy call_int1 (by rfl) T.int (by decide +kernel) (pa_cons (pe_op op_fdivN (pv 5) pe_int) pa_nil)) (pv 1)))))))))))))), ?_⟩
    refine ⟨_, rfl, p, _, rfl, pen_left h1, _, rfl, _, _, rfl, rfl, _, rfl, ?_⟩
    refine ite2 (fun _ => ?_) (fun _ => ?_)
    · refine ⟨_, rfl, p, _, rfl, pen_left h1, .inl ⟨_, rfl, _, rfl, _, _, rfl, rfl, m0, ?_⟩⟩
      refine ⟨_, rfl, p, _, rfl, pen_left h1, _, rfl, _, _, rfl, rfl, ⟨m0, mb⟩, _, rfl, p, _, rfl, pen_put_left _ h1, ?_⟩
      refine ⟨_, rfl, ?_⟩
      exact k _ _ (fmod_range hm).1 (fmod_range hm).2 ⟨c, ns, a, _, upd_same, by rw [upd_ne ncp]; exact h2, h3, h4, by omega, fdiv_nn h6 hm⟩ (Keep.upd _ (Keep.refl p H))
    · -- spot, at + 1
      refine ⟨_, rfl, p, _, rfl, pen_at h1, ?_⟩
      refine ⟨_, rfl, _, _, rfl, rfl, _, rfl, p, _, rfl, pen_put_at _ h1, ?_⟩
      have g1 : ∀ b, (upd H p (.dK (penK c (a + 1) b))) p = some (.dK (penK c (a + 1) b)) := fun b => upd_same
      have g2 : ∀ o, (upd H p o) c = some (.lst (ns.map V.int)) := fun o => by rw [upd_ne ncp]; exact h2
      have kE : ∀ o, Keep p H (upd H p o) := fun o => Keep.upd _ (Keep.refl p H)
      -- cells == []
      refine ⟨_, rfl, p, _, rfl, pen_cells (g1 _), Nat.zero_le _, fun e he => ?_⟩
      have nep : e ≠ p := fun z => by
        rw [z, upd_same] at he
        cases he
      have nec : e ≠ c := fun z => by
        rw [z, g2] at he
        cases he
      have g1' : ∀ o, (upd (upd H p (.dK (penK c (a + 1) l))) e o) p = some (.dK (penK c (a + 1) l)) := fun o => by rw [upd_ne nep.symm, upd_same]
      have g2' : ∀ o, (upd (upd H p (.dK (penK c (a + 1) l))) e o) c = some (.lst (ns.map V.int)) := fun o => by rw [upd_ne nec.symm]; exact g2 _
      have kE' : ∀ o, Keep p H (upd (upd H p (.dK (penK c (a + 1) l))) e o) := fun o => Keep.new _ (kE _) he
      have pen' : ∀ o, Pen (upd (upd H p (.dK (penK c (a + 1) l))) e o) p (t + 1) := fun o => ⟨c, ns, a + 1, l, g1' _, g2' _, h3, by omega, by omega, h6⟩
      refine ⟨.list (ns.map PyData.int), .list [], .lst (SqL.of (g2' _)) (dpAll_ints ns), .lst (SqL.of upd_same) .nil, shaped_ints ns, shaped_nil, _, rfl, ?_⟩
      rw [eqv_ints_nil]
      refine ite2 (fun hc => ?_) (fun hc => ?_)
      · refine ⟨_, rfl, _, _, rfl, rfl, .inl ⟨by decide, by decide⟩, _, _, rfl, rfl, .inl ⟨_, rfl, _, rfl, _, _, rfl, rfl, m0, ?_⟩⟩
        exact k _ _ (fmod_range hm).1 (fmod_range hm).2 (pen' _) (kE' _)
      · have hpos : 0 < ns.length := by
          cases ns with
          | nil => exact absurd rfl hc
          | cons n ns => exact Nat.succ_pos _
        have hposI : (0 : Int) < ((ns.map V.int).length : Int) := by
          rw [List.length_map]
          omega
        have fr := fmod_range (x := a) hposI
        obtain ⟨j, hj⟩ : ∃ j : Nat, a.fmod ((ns.map V.int).length : Int) = (j : Int) := ⟨(a.fmod ((ns.map V.int).length : Int)).toNat, by omega⟩
        have hjl : j < ns.length := by
          have z := fr.2
          rw [hj, List.length_map] at z
          omega
        refine ⟨_, rfl, p, _, rfl, pen_cells (g1' _), _, rfl, .inl ⟨_, rfl, _, rfl, p, _, rfl, pen_cells (g1' _), c, _, rfl, .inl (SqL.of (g2' _)), _, _, rfl, rfl, by omega, ?_⟩⟩
        refine ⟨c, _, (j : Int), _, rfl, congrArg V.int hj, SqL.of (g2' _), atI_nat (get_ints hjl), ?_⟩
        generalize hz : ns[j]'hjl = z
        -- spot < len(cells) and cell >= 10 ** 18
        refine ⟨_, rfl, _, rfl, p, _, rfl, pen_cells (g1' _), c, _, rfl, .inl (SqL.of (g2' _)), _, _, rfl, rfl, _, rfl, ?_⟩
        refine ite2 (fun _ => ?_) (fun _ => iteF ?_)
        · refine ⟨_, rfl, _, _, rfl, rfl, ⟨by decide, by decide, by decide⟩, _, _, rfl, rfl, _, rfl, ?_⟩
          refine ite2 (fun hz18 => ?_) (fun _ => ?_)
          · refine ⟨_, rfl, _, _, rfl, rfl, ⟨by decide, by decide, by decide⟩, _, _, rfl, rfl, _, rfl, _, _, rfl, rfl, ⟨m0, mb⟩, _, rfl, p, _, rfl, pen_put_left _ (g1' _), ?_⟩
            refine ⟨_, rfl, _, _, rfl, rfl, ⟨by decide, by decide, by decide⟩, _, _, rfl, rfl, .inl ⟨_, rfl, _, rfl, _, _, rfl, rfl, m0, ?_⟩⟩
            have hz0 : (0 : Int) ≤ z - 10 ^ (18 : Int).toNat := Int.sub_nonneg_of_le (of_decide_eq_true hz18)
            exact k _ _ (fmod_range hm).1 (fmod_range hm).2 ⟨c, ns, a + 1, _, upd_same, by rw [upd_ne ncp]; exact g2' _, h3, by omega, by omega, fdiv_nn hz0 hm⟩ (Keep.upd _ (kE' _))
          · refine ⟨_, rfl, .inl ⟨_, rfl, _, _, rfl, rfl, z1, _, _, rfl, rfl, _, rfl, _, _, rfl, rfl, .inl ⟨by decide, by decide⟩, _, _, rfl, rfl, _, _, rfl, rfl, .inl (mul_okf1 (by decide) (by decide)), ?_⟩⟩
            refine ⟨_, rfl, _, _, rfl, rfl, .inl ⟨by decide, by decide⟩, _, rfl, _, _, rfl, rfl, .inr ⟨by omega, by omega⟩, _, _, rfl, rfl, _, _, rfl, rfl, ?_⟩
            refine ⟨_, rfl, .inl ⟨_, rfl, _, _, rfl, rfl, z2, ?_⟩⟩
            refine ⟨_, rfl, _, rfl, _, _, rfl, rfl, _, _, rfl, rfl, .inl (mul_okf (by decide) (by decide)), .inl ⟨_, rfl, _, _, rfl, rfl, z3, ?_⟩⟩
            refine ⟨_, rfl, _, rfl, _, _, rfl, rfl, .inl (mul_okf (by decide) (by decide)), .inl ⟨_, rfl, _, _, rfl, rfl, z4, ?_⟩⟩
            refine ⟨_, rfl, _, _, rfl, rfl, ⟨by decide, by decide⟩, .inl ⟨_, rfl, _, rfl, _, _, rfl, rfl, m0, ?_⟩⟩
            exact k _ _ (fmod_range hm).1 (fmod_range hm).2 (pen' _) (kE' _)
        · refine ⟨_, rfl, .inl ⟨_, rfl, _, _, rfl, rfl, z1, _, _, rfl, rfl, _, rfl, _, _, rfl, rfl, .inl ⟨by decide, by decide⟩, _, _, rfl, rfl, _, _, rfl, rfl, .inl (mul_okf1 (by decide) (by decide)), ?_⟩⟩
          refine ⟨_, rfl, _, _, rfl, rfl, .inl ⟨by decide, by decide⟩, _, rfl, _, _, rfl, rfl, .inr ⟨by omega, by omega⟩, _, _, rfl, rfl, _, _, rfl, rfl, ?_⟩
          refine ⟨_, rfl, .inl ⟨_, rfl, _, _, rfl, rfl, z2, ?_⟩⟩
          refine ⟨_, rfl, _, rfl, _, _, rfl, rfl, _, _, rfl, rfl, .inl (mul_okf (by decide) (by decide)), .inl ⟨_, rfl, _, _, rfl, rfl, z3, ?_⟩⟩
          refine ⟨_, rfl, _, rfl, _, _, rfl, rfl, .inl (mul_okf (by decide) (by decide)), .inl ⟨_, rfl, _, _, rfl, rfl, z4, ?_⟩⟩
          refine ⟨_, rfl, _, _, rfl, rfl, ⟨by decide, by decide⟩, .inl ⟨_, rfl, _, rfl, _, _, rfl, rfl, m0, ?_⟩⟩
          exact k _ _ (fmod_range hm).1 (fmod_range hm).2 (pen' _) (kE' _)
end
end K22

set_option maxHeartbeats 4000000
namespace K22
open PySem PySem.Spec PyProof.Rows L2 Z
/-! ### sums: each def keeps its promise -/
abbrev FnM (K : PySem.W.Frag) (C m q : Str) (st : Stmt) (fd : FuncData) : Prop := FunD K m q (defArgs st) (defBody st) (defScope st) [] [] (He.ma K (He.ga K C) m) fd
section
variable {P : Program} {w : World} {K : PySem.W.Frag} {mg : Str → Option Value} {base : Heap}
/-- what may be called as Straight(a, b, c) -/
def MkS (P : Program) (w : World) (K : PySem.W.Frag) (mg : Str → Option Value) (base : Heap) : Prop := ∃ fd, FnOk P w K mg base CX0 1 (He.ma K (CS K) "__init__") fd ["self", "i", "n", "one"] (spSI K) ∧ Binds K fd ["self", "i", "n", "one"] []
theorem scStraight__init__ : FnScope ["self", "i", "n", "one"] ["self", "i", "n", "one"] (defScope iStraight__init__) := ⟨rfl, rfl, rfl, by decide +kernel, rfl, by decide +kernel, by decide +kernel⟩
theorem mk_S {fd : FuncData} (T : StTx K mg) (F : FnM K "Straight" "__init__" "Straight.__init__" iStraight__init__ fd) : MkS P w K mg base := by
  refine ⟨fd, ?_, F.bindsN fun _ _ _ _ _ _ us hl => match us, hl with | [_, _, _, _], _ => rfl⟩
  refine F.ok scStraight__init__ (fun vs H Q E h => ?_) (fun cdv A outer s H vs Q E hr h => ?_)
  · obtain ⟨p, dx, a, b, c, rfl, _⟩ := h
    rfl
  · obtain ⟨p, dx, a, b, c, rfl, hp, k⟩ := h
    refine ⟨_, PSs.nox (pss_cons (ps_fld (pv 0) (pv 1) rfl)
      (pss_cons (ps_fld (pv 0) (pv 2) rfl)
      (pss_one (ps_fld (pv 0) (pv 3) rfl)))), ?_⟩
    refine ⟨_, rfl, _, rfl, p, _, dx, [], rfl, hp, T.clS, T.nI, (by show 0 < 1000; decide), ?_⟩
    refine ⟨_, rfl, _, rfl, p, _, dx, _, rfl, upd_same, T.clS, T.nN, (by show 1 < 1000; decide), ?_⟩
    refine ⟨_, rfl, _, rfl, p, _, dx, _, rfl, upd_same, T.clS, T.nO, len2 _ _ _ _, ?_⟩
    exact k _ upd_same (fun b o nb e => by rw [upd_ne nb, upd_ne nb, upd_ne nb]; exact e)
theorem pe_S {X : Cx} {e : Expr} {es : List Expr} {t : TA} {p pos : Pos} {k : Nat} (T : StTx X.K X.mg) (M : MkS X.prog X.w X.K X.mg X.base) (hr : Room k X.A) (ha : PA X (e :: es) t) (hk : 2 ≤ k := by decide) (hg : Gl X "Straight" := by rfl)
    (he : starEach (e :: es) X.env = (false, eval e X.env) :: starEach es X.env := by rfl) (hpl : (backTo pos (starEach es X.env)).any (·.1) = false := by rfl) :
    PE X (.Call (.Name "Straight" p) (e :: es) [] pos) (fun σ H Q => t σ H fun vs H1 => ∃ a b c, vs = [.int a, .int b, .int c] ∧ NewS X.K H1 a b c Q) := by
  obtain ⟨fd, F, hb⟩ := M
  refine ⟨fun pins s σ H Q I h => ?_⟩
  refine wpAny_Call_Name_kw (ld_glob I hg T.gS ?_ (by decide))
  refine PySem.W.callWith_K (h₀ := X.base) I.ok.mod.kin T.mkS.kp (thn (ha.run pos pins s σ H _ I h) fun us s1 ⟨vs, H1, I1, r, a, b, c, ev, q⟩ => ⟨I1.kIn, ?_⟩) he hpl
  subst ev
  exact run_make T.mkS F (hr.mono hk) hb .nil pass0 I1 r fun x dx nx nd ne => ⟨x, dx, a, b, c, rfl, upd_same, fun H' hx kp => ⟨rfl, q x H' (Same.made (Same.refl H1) nx nd kp) nx ⟨dx, hx⟩⟩⟩
theorem sc_is_integer : FnScope ["value"] ["value"] (defScope s_is_integer) := ⟨rfl, rfl, rfl, by decide +kernel, rfl, by decide +kernel, by decide +kernel⟩
theorem ok_isInt {f : Addr} {fd : FuncData} (F : FnP K "is_integer" s_is_integer f fd) (T : StTx K mg) : FnOk P w K mg base CX0 1 f fd ["value"] (spIsInt K) := by
  refine F.ok sc_is_integer (fun vs H Q E h => ?_) (fun cdv A outer s H vs Q E hr h => ?_)
  · obtain ⟨v, rfl, _⟩ := h
    rfl
  · obtain ⟨v, rfl, h⟩ := h
    refine ⟨_, PSs.nox (pss_one (ps_ret (pe_and (pe_callB call_isi (by rfl) T.isi (by decide +kernel) (pa_cons (pv 0) (pa_cons (pe_bltn (v := .ty "int") (by rfl) T.int (by decide +kernel) rfl) pa_nil))) (pe_one (pe_not (pe_callB call_isi (by rfl) T.isi (by decide +kernel) (pa_cons (pv 0) (pa_cons (pe_bltn (v := .ty "bool") (by rfl) T.bool (by decide +kernel) rfl) pa_nil)))))))), ?_⟩
    rcases h with ⟨i, rfl, q⟩ | ⟨p, a, b, c, rfl, hp, q⟩
    · refine ⟨_, rfl, _, _, _, _, _, rfl, .ty _, .base (.int i), kii, _, rfl, iteT ?_⟩
      exact ⟨_, rfl, _, _, _, _, _, rfl, .ty _, .base (.int i), kib, _, rfl, q⟩
    · exact ⟨_, rfl, _, _, _, _, _, rfl, .ty _, .base (T.ty hp), T.kSi, _, rfl, iteF q⟩
theorem sc_straight_like : FnScope ["value"] ["value"] (defScope s_straight_like) := ⟨rfl, rfl, rfl, by decide +kernel, rfl, by decide +kernel, by decide +kernel⟩
theorem ok_like {f : Addr} {fd : FuncData} (F : FnP K "straight_like" s_straight_like f fd) (T : StTx K mg) (M : MkS P w K mg base) : FnOk P w K mg base CX0 3 f fd ["value"] (spLike K) := by
  refine F.ok sc_straight_like (fun vs H Q E h => ?_) (fun cdv A outer s H vs Q E hr h => ?_)
  · obtain ⟨v, _, _, _, rfl, _⟩ := h
    rfl
  · obtain ⟨v, a, b, c, rfl, h, q⟩ := h
    refine ⟨_, PSs.nox (pss_one (ps_ret (pe_ifExp (pt_val (pe_callB call_isi (by rfl) T.isi (by decide +kernel) (pa_cons (pv 0) (pa_cons (pe_glob (v := .ref (CS K)) rfl T.gS rfl) pa_nil)))) (pv 0) (pe_S T M hr (pa_cons pe_int (pa_cons pe_int (pa_cons (pv 0) pa_nil))))))), ?_⟩
    rcases h with ⟨p, rfl, hp⟩ | ⟨rfl, rfl, rfl⟩
    · refine ⟨_, rfl, _, _, _, _, _, rfl, .own _, .base (T.ty hp), T.kSS, _, rfl, iteT ?_⟩
      exact ⟨_, rfl, q p H (Same.refl H) hp⟩
    · refine ⟨_, rfl, _, _, _, _, _, rfl, .own _, .base (.int c), T.kiS, _, rfl, iteF ?_⟩
      exact ⟨_, rfl, 0, 0, c, rfl, fun p H' s _ hp => q p H' s hp⟩
theorem sc_value_of : FnScope ["straight", "i", "n"] ["straight", "i", "n"] (defScope s_value_of) := ⟨rfl, rfl, rfl, by decide +kernel, rfl, by decide +kernel, by decide +kernel⟩
theorem ok_val {f : Addr} {fd : FuncData} (F : FnP K "value_of" s_value_of f fd) (T : StTx K mg) : FnOk P w K mg base CX0 1 f fd ["straight", "i", "n"] (spVal K) := by
  refine F.ok sc_value_of (fun vs H Q E h => ?_) (fun cdv A outer s H vs Q E hr h => ?_)
  · obtain ⟨p, a, b, c, i, n, rfl, _⟩ := h
    rfl
  · obtain ⟨p, a, b, c, i, n, rfl, ⟨dx, hp⟩, sa, sb, q⟩ := h
    refine ⟨_, PSs.nox (pss_one (ps_ret (pe_op op_add (pe_op op_add (pe_op op_mul (pe_fld (pv 0) rfl) (pv 1)) (pe_op op_mul (pe_fld (pv 0) rfl) (pv 2))) (pe_fld (pv 0) rfl)))), ?_⟩
    refine ⟨_, rfl, p, _, dx, _, _, rfl, hp, T.clS, T.nI, sf_i _ _ _, _, rfl, _, _, rfl, rfl, .inl sa, ?_⟩
    refine ⟨_, rfl, p, _, dx, _, _, rfl, hp, T.clS, T.nN, sf_n _ _ _, _, rfl, _, _, rfl, rfl, .inl sb, _, _, rfl, rfl, ?_⟩
    exact ⟨_, rfl, p, _, dx, _, _, rfl, hp, T.clS, T.nO, sf_one _ _ _, _, _, rfl, rfl, q⟩
theorem sc_is_integer_from : FnScope ["value", "low", "high"] ["value", "low", "high"] (defScope s_is_integer_from) := ⟨rfl, rfl, rfl, by decide +kernel, rfl, by decide +kernel, by decide +kernel⟩
theorem ok_intFrom {f : Addr} {fd : FuncData} (F : FnP K "is_integer_from" s_is_integer_from f fd) (dIsInt : Dn P w K mg base 1 "is_integer" ["value"] (spIsInt K)) : FnOk P w K mg base CX0 2 f fd ["value", "low", "high"] spIntFrom := by
  refine F.ok sc_is_integer_from (fun vs H Q E h => ?_) (fun cdv A outer s H vs Q E hr h => ?_)
  · obtain ⟨v, lo, hi, rfl, _⟩ := h
    rfl
  · obtain ⟨v, lo, hi, rfl, k⟩ := h
    refine ⟨_, PSs.nox (pss_one (ps_ret (pe_and (pe_dn dIsInt hr (pa_cons (pv 0) pa_nil)) (pe_one (pe_chain op_le op_le (pv 1) (pv 0) (pv 2)))))), ?_⟩
    refine ⟨_, rfl, _, rfl, .inl ⟨v, rfl, _, rfl, iteT ?_⟩⟩
    refine ⟨_, rfl, _, rfl, _, _, rfl, rfl, _, rfl, ite2 (fun h => ?_) (fun h => ?_)⟩
    · have h1 : lo ≤ v := of_decide_eq_true h
      refine ⟨_, rfl, _, _, rfl, rfl, ?_⟩
      rw [show decide (lo ≤ v ∧ v ≤ hi) = decide (v ≤ hi) from decide_eq_decide.mpr ⟨fun z => z.2, fun z => ⟨h1, z⟩⟩] at k
      exact k
    · have h1 : ¬ lo ≤ v := fun z => h (decide_eq_true z)
      rw [decide_eq_false (fun z => h1 z.1)] at k
      exact k
end
end K22

set_option maxHeartbeats 4000000
namespace K22
open PySem PySem.Spec PyProof.Rows L2 Z
section
variable {P : Program} {w : World} {K : PySem.W.Frag} {mg : Str → Option Value} {base : Heap}
theorem scBadNumber__init__ : FnScope ["self", "what", "number"] ["self", "what", "number"] (defScope iBadNumber__init__) := ⟨rfl, rfl, rfl, by decide +kernel, rfl, by decide +kernel, by decide +kernel⟩
theorem mxBadNumber {fd : FuncData} (T : EC K mg "BadNumber" ["what", "number"]) (F : FnM K "BadNumber" "__init__" "BadNumber.__init__" iBadNumber__init__ fd) : Mx P w K mg base "BadNumber" ["self", "what", "number"] ["what", "number"] := by
  refine ⟨T, fd, ?_, F.bindsN fun _ _ _ _ _ _ us hl => match us, hl with | [_, _, _], _ => rfl⟩
  refine F.ok scBadNumber__init__ (fun vs H Q E h => ?_) (fun cdv A outer s H vs Q E hr h => ⟨_, PSs.nox (pss_cons (ps_ost (pv 0) (pv 1)) (pss_one (ps_ost (pv 0) (pv 2)))), rd_err2 T h⟩)
  obtain ⟨a, ws, rfl, e, _⟩ := h
  rw [List.length_cons, e]
  rfl
/-- what may be called as Place(v, d) -/
def MkP (P : Program) (w : World) (K : PySem.W.Frag) (mg : Str → Option Value) (base : Heap) : Prop := ∃ fd, FnOk P w K mg base (L2.CX P w) 4 (He.ma K (CP K) "__init__") fd ["self", "straight", "divisor"] (spPI K) ∧ Binds K fd ["self", "straight", "divisor"] []
theorem scPlace__init__ : FnScope ["self", "straight", "divisor", "told", "common"] ["self", "straight", "divisor"] (defScope iPlace__init__) := ⟨rfl, rfl, rfl, by decide +kernel, rfl, by decide +kernel, by decide +kernel⟩
theorem mk_P {fd : FuncData} (T : PlTx K mg) (M : MkS P w K mg base) (MB : Mx P w K mg base "BadNumber" ["self", "what", "number"] ["what", "number"]) (dLike : Dn P w K mg base 3 "straight_like" ["value"] (spLike K))
    (F : FnM K "Place" "__init__" "Place.__init__" iPlace__init__ fd) : MkP P w K mg base := by
  refine ⟨fd, ?_, F.bindsN fun _ _ _ _ _ _ us hl => match us, hl with | [_, _, _], _ => rfl⟩
  refine F.ok scPlace__init__ (fun vs H Q E h => ?_) (fun cdv A outer s H vs Q E hr h => ?_)
  · obtain ⟨p, dx, v, a, b, c, d, rfl, _⟩ := h
    rfl
  · obtain ⟨p, dx, v, a, b, c, d, rfl, hp, hv, hbad, hok⟩ := h
    refine ⟨_, (pss_cons (ps_if (pt_cmpR op_lt (pv 2) pe_int (nomark _)) (pss_one (ps_raise rfl (takes_of rfl rfl rfl rfl) (pmk_err MB hr (pa_cons pe_str (pa_cons (pv 2) pa_nil))))) pss_nil)
      (pss_cons (ps_set (i := 3) scPlace__init__.nd rfl (Or.inl rfl) (pe_dn dLike hr (pa_cons (pv 1) pa_nil)))
      (pss_cons (ps_set (i := 4) scPlace__init__.nd rfl (Or.inl rfl) (pe_callBfun cr_gcd (by rfl) T.gcd (pa_cons (pe_callBfun cr_gcd (by rfl) T.gcd (pa_cons (pe_fld (pv 3) rfl) (pa_cons (pe_fld (pv 3) rfl) pa_nil))) (pa_cons (pv 2) pa_nil))))
      (pss_cons (ps_fld (pv 0) (pe_S T.toStTx M hr (pa_cons (pe_op op_fdivN (pe_fld (pv 3) rfl) (pv 4)) (pa_cons (pe_op op_fdivN (pe_fld (pv 3) rfl) (pv 4)) (pa_cons (pe_op op_fdivN (pe_fld (pv 3) rfl) (pv 4)) pa_nil)))) rfl)
      (pss_one (ps_fld (pv 0) (pe_op op_fdivN (pv 2) (pv 4)) rfl)))))), ?_⟩
    refine ⟨_, rfl, _, _, rfl, rfl, _, rfl, ite2 (fun hd => ?_) (fun hd => ?_)⟩
    · exact ⟨_, rfl, err_go (K := K) (x := "BadNumber") (fs := ["what", "number"]) (by show 2 ≤ 1000; decide) rfl fun e H' s he => hbad (of_decide_eq_true hd) e H' s he⟩
    · have d1 : 1 ≤ d := by
        have z : ¬ d < 1 := fun z => hd (decide_eq_true z)
        omega
      obtain ⟨d2, k⟩ := hok d1
      have hg0 : 0 < gg a b d := Nat.gcd_pos_of_pos_right _ (by omega)
      have hgd : gg a b d ≤ d.natAbs := Nat.le_of_dvd (by omega) (Nat.gcd_dvd_right _ _)
      have hgc : CDivN a (gg a b d : Int) ∧ CDivN b (gg a b d : Int) ∧ CDivN c (gg a b d : Int) ∧ CDivN d (gg a b d : Int) := by
        unfold CDivN
        have e : ((gg a b d : Nat) : Int) ≠ 0 ∧ ((gg a b d : Nat) : Int).natAbs < 1073741824 := ⟨by omega, by omega⟩
        exact ⟨e, e, e, e⟩
      obtain ⟨ga_, gb_, gc_, gd_⟩ := hgc
      refine ⟨_, rfl, v, a, b, c, rfl, hv, fun q H1 s1 hq => ?_⟩
      obtain ⟨dq, hq⟩ := hq
      refine ⟨_, rfl, q, _, dq, _, _, rfl, hq, T.clS, T.nI, sf_i _ _ _, _, rfl, q, _, dq, _, _, rfl, hq, T.clS, T.nN, sf_n _ _ _, _, _, rfl, _, rfl, _, _, rfl, ?_⟩
      refine ⟨_, rfl, q, _, dq, _, _, rfl, hq, T.clS, T.nI, sf_i _ _ _, _, rfl, _, _, rfl, rfl, ga_, ?_⟩
      refine ⟨_, rfl, q, _, dq, _, _, rfl, hq, T.clS, T.nN, sf_n _ _ _, _, rfl, _, _, rfl, rfl, gb_, ?_⟩
      refine ⟨_, rfl, q, _, dq, _, _, rfl, hq, T.clS, T.nO, sf_one _ _ _, _, rfl, _, _, rfl, rfl, gc_, ?_⟩
      refine ⟨_, _, _, rfl, fun r H2 s2 hr1 hr2 => ?_⟩
      have hp2 : H2 p = some (.ins (CP K) dx []) := s2 _ _ (s1 _ _ hp)
      have npr : r ≠ p := fun z => by
        rw [z, s1 _ _ hp] at hr1
        cases hr1
      refine ⟨_, rfl, p, _, dx, _, rfl, hp2, T.clP, T.nS, (by show 0 < 1000; decide), ?_⟩
      refine ⟨_, rfl, _, rfl, _, _, rfl, rfl, gd_, _, rfl, p, _, dx, _, rfl, upd_same, T.clP, T.nD, len1 _ _, ?_⟩
      obtain ⟨dr, hr3⟩ := hr2
      refine k r _ upd_same ⟨dr, by rw [upd_ne npr, upd_ne npr]; exact hr3⟩ (fun b o nb e => ?_)
      rw [upd_ne nb, upd_ne nb]
      exact s2 _ _ (s1 _ _ e)
theorem pe_P {X : Cx} {e : Expr} {es : List Expr} {t : TA} {p pos : Pos} {k : Nat} {E : L2.St → XK} (T : PlTx X.K X.mg) (M : MkP X.prog X.w X.K X.mg X.base) (hr : Room k X.A) (hx : ∀ σ, PassesAt (L2.CX X.prog X.w) X σ (E σ)) (ha : PA X (e :: es) t) (hk : 5 ≤ k := by decide) (hg : Gl X "Place" := by rfl)
    (he : starEach (e :: es) X.env = (false, eval e X.env) :: starEach es X.env := by rfl) (hpl : (backTo pos (starEach es X.env)).any (·.1) = false := by rfl) :
    PE X (.Call (.Name "Place" p) (e :: es) [] pos) (fun σ H Q => t σ H fun vs H1 => ∃ v d, vs = [v, .int d] ∧ rPlc X.K v d H1 Q (E σ)) := by
  obtain ⟨fd, F, hb⟩ := M
  refine ⟨fun pins s σ H Q I h => ?_⟩
  refine wpAny_Call_Name_kw (ld_glob I hg T.gP ?_ (by decide))
  refine PySem.W.callWith_K (h₀ := X.base) I.ok.mod.kin T.mkP.kp (thn (ha.run pos pins s σ H _ I h) fun us s1 ⟨vs, H1, I1, r, v, d, ev, a, b, c, hv, hbad, hok⟩ => ⟨I1.kIn, ?_⟩) he hpl
  subst ev
  refine make_at T.mkP F (hr.mono hk) hb (hx σ) I1 r fun x dx nx nd ne => ?_
  have s0 : Same H1 (upd (upd H1 dx (.own x)) x (.ins (CP X.K) dx [])) := Same.new _ (Same.new _ (Same.refl H1) nd) (by rw [upd_ne (Ne.symm ne)]; exact nx)
  refine ⟨x, dx, v, a, b, c, d, rfl, upd_same, hv.same s0, fun hd e H' s he => hbad hd e H' (s0.trans s) he, fun h1 => ⟨(hok h1).1, fun q H' hp hq kp => ⟨rfl, (hok h1).2 x H' (Same.made (Same.refl H1) nx nd kp) ⟨dx, q, hp, hq⟩⟩⟩⟩
theorem scPlace__call__ : FnScope ["self", "i", "n"] ["self", "i", "n"] (defScope iPlace__call__) := ⟨rfl, rfl, rfl, by decide +kernel, rfl, by decide +kernel, by decide +kernel⟩
theorem ok_PCall {fd : FuncData} (F : FnM K "Place" "__call__" "Place.__call__" iPlace__call__ fd) (T : PlTx K mg) (dVal : Dn P w K mg base 1 "value_of" ["straight", "i", "n"] (spVal K)) : FnOk P w K mg base CX0 2 (He.ma K (CP K) "__call__") fd ["self", "i", "n"] (spPCall K) := by
  refine F.ok scPlace__call__ (fun vs H Q E h => ?_) (fun cdv A outer s H vs Q E hr h => ?_)
  · obtain ⟨p, a, b, c, d, i, n, rfl, _⟩ := h
    rfl
  · obtain ⟨p, a, b, c, d, i, n, rfl, ⟨dx, q, hp, hq⟩, sa, sb, d0, d1, k⟩ := h
    refine ⟨_, PSs.nox (pss_one (ps_ret (pe_op op_fdivN (pe_dn dVal hr (pa_cons (pe_fld (pv 0) rfl) (pa_cons (pv 1) (pa_cons (pv 2) pa_nil)))) (pe_fld (pv 0) rfl)))), ?_⟩
    refine ⟨_, rfl, p, _, dx, _, _, rfl, hp, T.clP, T.nS, pf_s _ _, _, rfl, _, rfl, q, a, b, c, i, n, rfl, hq, sa, sb, ?_⟩
    exact ⟨_, rfl, p, _, dx, _, _, rfl, hp, T.clP, T.nD, pf_d _ _, _, _, rfl, rfl, ⟨by omega, by omega⟩, k⟩
end
end K22

set_option maxHeartbeats 4000000
namespace K22
open PySem PySem.Spec PyProof.Rows L2 Z
/-! ### loops -/
theorem if_no {b : Bool} {A B : Prop} (h : b = false) (k : B) : if b = true then A else B := by
  rw [h]
  exact k
theorem if_yes {b : Bool} {A B : Prop} (h : b = true) (k : A) : if b = true then A else B := by
  rw [h]
  exact k
theorem not_dec {p : Prop} [Decidable p] (h : p) : (!decide p) = false := by
  rw [decide_eq_true h]
  rfl
abbrev CL (K : PySem.W.Frag) : Addr := He.ga K "Loop"
def lpf (lo hi st : Addr) (S : Int) (dn : Bool) : List (Str × V) := putF "down" (.bl dn) (putF "step" (.int S) (putF "statements" (.ref st) (putF "high" (.ref hi) (putF "low" (.ref lo) []))))
theorem n_lh : ¬ (("low" : Str) = "high") := by decide +kernel
theorem n_lt : ¬ (("low" : Str) = "statements") := by decide +kernel
theorem n_ls : ¬ (("low" : Str) = "step") := by decide +kernel
theorem n_ld : ¬ (("low" : Str) = "down") := by decide +kernel
theorem n_ht : ¬ (("high" : Str) = "statements") := by decide +kernel
theorem n_hs : ¬ (("high" : Str) = "step") := by decide +kernel
theorem n_hd : ¬ (("high" : Str) = "down") := by decide +kernel
theorem n_sd : ¬ (("step" : Str) = "down") := by decide +kernel
theorem lp_lo (lo hi st : Addr) (S : Int) (dn : Bool) : (lpf lo hi st S dn).lookup ("low" : Str) = some (.ref lo) := by
  unfold lpf
  rw [lookup_putF, if_neg n_ld, lookup_putF, if_neg n_ls, lookup_putF, if_neg n_lt, lookup_putF, if_neg n_lh, lookup_putF, if_pos rfl]
theorem lp_hi (lo hi st : Addr) (S : Int) (dn : Bool) : (lpf lo hi st S dn).lookup ("high" : Str) = some (.ref hi) := by
  unfold lpf
  rw [lookup_putF, if_neg n_hd, lookup_putF, if_neg n_hs, lookup_putF, if_neg n_ht, lookup_putF, if_pos rfl]
theorem lp_st (lo hi st : Addr) (S : Int) (dn : Bool) : (lpf lo hi st S dn).lookup ("step" : Str) = some (.int S) := by
  unfold lpf
  rw [lookup_putF, if_neg n_sd, lookup_putF, if_pos rfl]
theorem lp_dn (lo hi st : Addr) (S : Int) (dn : Bool) : (lpf lo hi st S dn).lookup ("down" : Str) = some (.bl dn) := by
  unfold lpf
  rw [lookup_putF, if_pos rfl]
/-- a loop: low is (a n + c) // d, high is (x n + z) // u, of least forms -/
def LpAt (K : PySem.W.Frag) (H : Hp) (p : Addr) (a c d x z u S : Int) (dn : Bool) : Prop := ∃ dx lo hi st, H p = some (.ins (CL K) dx (lpf lo hi st S dn)) ∧ PlcAt K H lo 0 a c d ∧ PlcAt K H hi 0 x z u
theorem LpAt.same {K : PySem.W.Frag} {H H' : Hp} {p : Addr} {a c d x z u S : Int} {dn : Bool} (h : LpAt K H p a c d x z u S dn) (s : Same H H') : LpAt K H' p a c d x z u S dn := by
  obtain ⟨dx, lo, hi, st, h1, h2, h3⟩ := h
  exact ⟨dx, lo, hi, st, s _ _ h1, h2.same s, h3.same s⟩
theorem LpAt.keep {K : PySem.W.Frag} {H H' : Hp} {p q : Addr} {t : Nat} {a c d x z u S : Int} {dn : Bool} (h : LpAt K H p a c d x z u S dn) (hp : Pen H q t) (s : Keep q H H') : LpAt K H' p a c d x z u S dn := by
  obtain ⟨dx, lo, hi, st, h1, h2, h3⟩ := h
  exact ⟨dx, lo, hi, st, s _ _ (hp.ne h1 fun _ z => by cases z) h1, h2.keep hp s, h3.keep hp s⟩
structure LpTx (K : PySem.W.Frag) (mg : Str → Option Value) : Prop extends PlTx K mg where
  gL : mg "Loop" = some (.ref (CL K))
  clL : Cls K (CL K)
  mkL : Mk K (CL K) (He.ma K (CL K) "__init__")
  nLo : NoAttr K (CL K) "low"
  nHi : NoAttr K (CL K) "high"
  nSt : NoAttr K (CL K) "statements"
  nSp : NoAttr K (CL K) "step"
  nDn : NoAttr K (CL K) "down"
  t1 : ∃ t, mg "TOP_ONE" = some (.int 999 t)
  t2 : ∃ t, mg "TOP_RANGE_PART" = some (.int 3 t)
  t3 : ∃ t, mg "TOP_DIVISOR" = some (.int 3 t)
  t4 : ∃ t, mg "TOP_STEP" = some (.int 16 t)
  t5 : ∃ t, mg "MOST_STATEMENTS" = some (.int 16 t)
  len : mg "len" = none
  tuple : mg "tuple" = none
  max : mg "max" = none
  divmod : mg "divmod" = none
/-- a place, or an int in its place -/
def PlV (K : PySem.W.Frag) (H : Hp) (v : V) (a c d : Int) : Prop := (∃ q, v = .ref q ∧ PlcAt K H q 0 a c d) ∨ (v = .int c ∧ a = 0 ∧ d = 1)
/-- the bounds of a range -/
def RgOk (a c d : Int) : Prop := 0 ≤ a ∧ a ≤ 3 ∧ -999 ≤ c ∧ c ≤ 999 ∧ 1 ≤ d ∧ d ≤ 3
def spMany (K : PySem.W.Frag) : Sp := fun vs H Q _ => ∃ (w : Str) (l : Addr) (m : Int) (xs : List V), vs = [.str w, .ref l, .int m] ∧ (SqL K H l xs ∨ SqT K H l xs) ∧ (xs.length : Int) ≤ m ∧ Q .non H
def spNumber : Sp := fun vs H Q _ => ∃ (w : Str) (v lo hi : Int), vs = [.str w, .int v, .int lo, .int hi] ∧ lo ≤ v ∧ v ≤ hi ∧ Q .non H
def spRange (K : PySem.W.Frag) : Sp := fun vs H Q _ => ∃ (q : Addr) (a c d : Int), vs = [.ref q] ∧ PlcAt K H q 0 a c d ∧ RgOk a c d ∧ Q .non H
def spPLike (K : PySem.W.Frag) : Sp := fun vs H Q _ => ∃ (v : V) (a c d : Int), vs = [v] ∧ PlV K H v a c d ∧ ∀ q H', Same H H' → PlcAt K H' q 0 a c d → Q (.ref q) H'
/-- the value of a bound -/
def pv_ (a c d n : Int) : Int := (a * n + c).fdiv d
/-- how many turns from the least counter on -/
def mt_ (l h S : Int) : Int := if -((l - h).fdiv S) > 0 then -((l - h).fdiv S) else 0
/-- the least counter -/
def lc_ (l S : Int) : Int := if 0 ≤ l then l else l.fmod S
def spTurns (K : PySem.W.Frag) : Sp := fun vs H Q _ => ∃ (p : Addr) (a c d x z u S l n : Int) (dn : Bool), vs = [.ref p, .int l, .int n] ∧ LpAt K H p a c d x z u S dn ∧ RgOk x z u ∧ 1 ≤ S ∧ S ≤ 16 ∧ Q (.int (mt_ l (pv_ x z u n) S)) H
section
variable {P : Program} {w : World} {K : PySem.W.Frag} {mg : Str → Option Value} {base : Heap}
theorem sc_check_many : FnScope ["what", "things", "most"] ["what", "things", "most"] (defScope s_check_many) := ⟨rfl, rfl, rfl, by decide +kernel, rfl, by decide +kernel, by decide +kernel⟩
theorem ok_many {f : Addr} {fd : FuncData} (F : FnP K "check_many" s_check_many f fd) (T : LpTx K mg) : FnOk P w K mg base CX0 1 f fd ["what", "things", "most"] (spMany K) := by
  refine F.ok sc_check_many (fun vs H Q E h => ?_) (fun cdv A outer s H vs Q E hr h => ?_)
  · obtain ⟨w, l, m, xs, rfl, _⟩ := h
    rfl
  · obtain ⟨w, l, m, xs, rfl, hs, hl, k⟩ := h
    refine ⟨_, PSs.nox (pss_one (ps_if (pt_cmpR op_gt (pe_callB call_len_seq (by rfl) T.len PySem.boot_len (pa_cons (pv 1) pa_nil)) (pv 2) (nomark _)) (pss_one ps_never) pss_nil)), ?_⟩
    refine ⟨_, rfl, l, xs, rfl, hs, _, rfl, _, _, rfl, rfl, _, rfl, ?_⟩
    rw [decide_eq_false (by omega)]
    exact iteF k
theorem sc_check_number : FnScope ["what", "number", "low", "high"] ["what", "number", "low", "high"] (defScope s_check_number) := ⟨rfl, rfl, rfl, by decide +kernel, rfl, by decide +kernel, by decide +kernel⟩
theorem ok_number {f : Addr} {fd : FuncData} (F : FnP K "check_number" s_check_number f fd) : FnOk P w K mg base CX0 1 f fd ["what", "number", "low", "high"] spNumber := by
  refine F.ok sc_check_number (fun vs H Q E h => ?_) (fun cdv A outer s H vs Q E hr h => ?_)
  · obtain ⟨w, v, lo, hi, rfl, _⟩ := h
    rfl
  · obtain ⟨w, v, lo, hi, rfl, h1, h2, k⟩ := h
    refine ⟨_, PSs.nox (pss_one (ps_if (pt_not (pt_chain op_le op_le (pv 2) (pv 1) (pv 3))) (pss_one ps_never) pss_nil)), ?_⟩
    refine ⟨_, rfl, _, rfl, _, _, rfl, rfl, _, rfl, ?_⟩
    rw [decide_eq_true h1]
    refine iteT ?_
    refine ⟨_, rfl, _, _, rfl, rfl, _, rfl, ?_⟩
    rw [decide_eq_true h2]
    exact iteF k
theorem sc_check_range_place : FnScope ["place"] ["place"] (defScope s_check_range_place) := ⟨rfl, rfl, rfl, by decide +kernel, rfl, by decide +kernel, by decide +kernel⟩
theorem ok_range {f : Addr} {fd : FuncData} (F : FnP K "check_range_place" s_check_range_place f fd) (T : LpTx K mg) (dNumber : Dn P w K mg base 1 "check_number" ["what", "number", "low", "high"] spNumber) : FnOk P w K mg base CX0 2 f fd ["place"] (spRange K) := by
  refine F.ok sc_check_range_place (fun vs H Q E h => ?_) (fun cdv A outer s H vs Q E hr h => ?_)
  · obtain ⟨q, a, c, d, rfl, _⟩ := h
    rfl
  · obtain ⟨q, a, c, d, rfl, ⟨dx, q', hp, dq, hq⟩, ⟨r1, r2, r3, r4, r5, r6⟩, k⟩ := h
    obtain ⟨tTOP_ONE, hTOP_ONE⟩ := T.t1
    obtain ⟨tTOP_RANGE_PART, hTOP_RANGE_PART⟩ := T.t2
    obtain ⟨tTOP_DIVISOR, hTOP_DIVISOR⟩ := T.t3
    refine ⟨_, PSs.nox (pss_cons (ps_expr (pe_dn dNumber hr (pa_cons pe_str (pa_cons (pe_fld (pe_fld (pv 0) rfl) rfl) (pa_cons pe_int (pa_cons pe_int pa_nil))))))
      (pss_cons (ps_expr (pe_dn dNumber hr (pa_cons pe_str (pa_cons (pe_fld (pe_fld (pv 0) rfl) rfl) (pa_cons pe_int (pa_cons (pe_glob (v := .int 3) rfl hTOP_RANGE_PART ⟨tTOP_RANGE_PART, rfl⟩) pa_nil))))))
      (pss_cons (ps_expr (pe_dn dNumber hr (pa_cons pe_str (pa_cons (pe_fld (pe_fld (pv 0) rfl) rfl) (pa_cons (pe_un un_neg (pe_glob (v := .int 999) rfl hTOP_ONE ⟨tTOP_ONE, rfl⟩)) (pa_cons (pe_glob (v := .int 999) rfl hTOP_ONE ⟨tTOP_ONE, rfl⟩) pa_nil))))))
      (pss_one (ps_expr (pe_dn dNumber hr (pa_cons pe_str (pa_cons (pe_fld (pv 0) rfl) (pa_cons pe_int (pa_cons (pe_glob (v := .int 3) rfl hTOP_DIVISOR ⟨tTOP_DIVISOR, rfl⟩) pa_nil)))))))))), ?_⟩
    refine ⟨_, rfl, q, _, dx, _, _, rfl, hp, T.clP, T.nS, pf_s _ _, q', _, dq, _, _, rfl, hq, T.clS, T.nI, sf_i _ _ _, _, _, _, _, rfl, by decide, by decide, ?_⟩
    refine ⟨_, rfl, q, _, dx, _, _, rfl, hp, T.clP, T.nS, pf_s _ _, q', _, dq, _, _, rfl, hq, T.clS, T.nN, sf_n _ _ _, _, _, _, _, rfl, r1, r2, ?_⟩
    refine ⟨_, rfl, q, _, dx, _, _, rfl, hp, T.clP, T.nS, pf_s _ _, q', _, dq, _, _, rfl, hq, T.clS, T.nO, sf_one _ _ _, _, rfl, _, _, _, _, rfl, r3, r4, ?_⟩
    exact ⟨_, rfl, q, _, dx, _, _, rfl, hp, T.clP, T.nD, pf_d _ _, _, _, _, _, rfl, r5, r6, k⟩
theorem sc_place_like : FnScope ["value"] ["value"] (defScope s_place_like) := ⟨rfl, rfl, rfl, by decide +kernel, rfl, by decide +kernel, by decide +kernel⟩
theorem ok_pLike {f : Addr} {fd : FuncData} (F : FnP K "place_like" s_place_like f fd) (T : LpTx K mg) (MP : MkP P w K mg base) : FnOk P w K mg base CX0 6 f fd ["value"] (spPLike K) := by
  refine F.ok sc_place_like (fun vs H Q E h => ?_) (fun cdv A outer s H vs Q E hr h => ?_)
  · obtain ⟨v, a, c, d, rfl, _⟩ := h
    rfl
  · obtain ⟨v, a, c, d, rfl, h, k⟩ := h
    refine ⟨_, PSs.nox (pss_one (ps_ret (pe_ifExp (pt_val (pe_callB call_isi (by rfl) T.isi (by decide +kernel) (pa_cons (pv 0) (pa_cons (pe_glob (v := .ref (CP K)) rfl T.gP rfl) pa_nil)))) (pv 0) (pe_P T.toPlTx MP hr at_E0 (pa_cons (pv 0) (pa_cons pe_int pa_nil)))))), ?_⟩
    rcases h with ⟨q, rfl, hq⟩ | ⟨rfl, rfl, rfl⟩
    · refine ⟨_, rfl, _, _, _, _, _, rfl, .own _, .base (T.pty hq), T.kPP, _, rfl, iteT ?_⟩
      exact ⟨_, rfl, k q H (Same.refl H) hq⟩
    · refine ⟨_, rfl, _, _, _, _, _, rfl, .own _, .base (.int c), T.kiP, _, rfl, iteF ?_⟩
      refine ⟨_, rfl, _, 1, rfl, 0, 0, c, .inr ⟨rfl, rfl, rfl⟩, fun z => absurd z (by decide), fun _ => ⟨by decide, fun q H' s hq => k q H' s ?_⟩⟩
      have e : ((gg 0 0 1 : Nat) : Int) = 1 := by decide +kernel
      rw [e, Int.fdiv_one, Int.fdiv_one] at hq
      exact hq
/-- a place may be called -/
structure PC (P : Program) (w : World) (K : PySem.W.Frag) (mg : Str → Option Value) (base : Heap) : Prop where
  call : ∃ fd, FnOk P w K mg base CX0 2 (He.ma K (CP K) "__call__") fd ["self", "i", "n"] (spPCall K) ∧ Binds K fd ["self", "i", "n"] [] ∧ StX.CallO K (CP K) (He.ma K (CP K) "__call__")
theorem sc_turns_from : FnScope ["loop", "least", "n"] ["loop", "least", "n"] (defScope s_turns_from) := ⟨rfl, rfl, rfl, by decide +kernel, rfl, by decide +kernel, by decide +kernel⟩
theorem ok_turns {f : Addr} {fd : FuncData} (F : FnP K "turns_from" s_turns_from f fd) (T : LpTx K mg) (C : PC P w K mg base) : FnOk P w K mg base CX0 3 f fd ["loop", "least", "n"] (spTurns K) := by
  refine F.ok sc_turns_from (fun vs H Q E h => ?_) (fun cdv A outer s H vs Q E hr h => ?_)
  · obtain ⟨p, a, c, d, x, z, u, S, l, n, dn, rfl, _⟩ := h
    rfl
  · obtain ⟨p, a, c, d, x, z, u, S, l, n, dn, rfl, ⟨dx, lo, hi, st, hp, _, hhi⟩, ⟨r1, r2, r3, r4, r5, r6⟩, S1, S2, k⟩ := h
    obtain ⟨fdc, Fc, hbc, cc⟩ := C.call
    refine ⟨_, PSs.nox (pss_one (ps_ret (pe_callB (call_max2 rfl) (by rfl) T.max (by decide +kernel) (pa_cons pe_int (pa_cons (pe_un un_neg (pe_op op_fdivN (pe_op op_sub (pv 1) (pe_fcall (pv 0) cc (FnOk.raw Fc hbc .nil) (hr.mono (by decide)) pass0 (pa_cons pe_int (pa_cons (pv 2) pa_nil)))) (pe_fld (pv 0) rfl))) pa_nil))))), ?_⟩
    obtain ⟨dh, qh, hh, _⟩ := id hhi
    have sm : ∀ y : Int, 0 ≤ y → y ≤ 3 → Sm y := fun y h0 h3 => by unfold Sm; omega
    refine ⟨_, rfl, _, rfl, p, _, dx, _, hi, rfl, hp, T.clL, T.nHi, lp_hi _ _ _ _ _, _, rfl, ⟨_, _, hh⟩, hi, 0, x, z, u, 0, n, rfl, hhi, sm 0 (by decide) (by decide), sm x r1 r2, by omega, by omega, ?_⟩
    refine ⟨_, _, rfl, rfl, _, rfl, p, _, dx, _, _, rfl, hp, T.clL, T.nSp, lp_st _ _ _ _ _, _, _, rfl, rfl, ⟨by omega, by omega⟩, _, rfl, ?_⟩
    refine ⟨_, _, rfl, ?_⟩
    unfold mt_ pv_ at k
    have e : (0 : Int) * 0 + x * n + z = x * n + z := by omega
    rw [e]
    exact k
end
section
variable (K : PySem.W.Frag)
def spLC : Sp := fun vs H Q _ => ∃ (p : Addr) (a c d x z u S n : Int) (dn : Bool), vs = [.ref p, .int n] ∧ LpAt K H p a c d x z u S dn ∧ RgOk a c d ∧ 1 ≤ S ∧ S ≤ 16 ∧ Q (.int (lc_ (pv_ a c d n) S)) H
/-- the number of turns -/
def mn_ (a c d x z u S n : Int) : Int := mt_ (lc_ (pv_ a c d n) S) (pv_ x z u n) S
def spMT : Sp := fun vs H Q _ => ∃ (p : Addr) (a c d x z u S n : Int) (dn : Bool), vs = [.ref p, .int n] ∧ LpAt K H p a c d x z u S dn ∧ RgOk a c d ∧ RgOk x z u ∧ 1 ≤ S ∧ S ≤ 16 ∧ Q (.int (mn_ a c d x z u S n)) H
def spCO : Sp := fun vs H Q E => ∃ (p : Addr) (a c d x z u S n k : Int) (dn : Bool), vs = [.ref p, .int n, .int k] ∧ LpAt K H p a c d x z u S dn ∧ RgOk a c d ∧ RgOk x z u ∧ 1 ≤ S ∧ S ≤ 16 ∧
  (¬ (0 ≤ k ∧ k ≤ mn_ a c d x z u S n - 1) → BadN K H "turn" (.int k) E) ∧ (0 ≤ k → k ≤ mn_ a c d x z u S n - 1 → Q (.int (lc_ (pv_ a c d n) S + (if dn = true then mn_ a c d x z u S n - 1 - k else k) * S)) H)
/-- what turn_of tells -/
def to_ (l S m cn : Int) (dn : Bool) : V := if (cn - l) % S = 0 ∧ 0 ≤ (cn - l) / S ∧ (cn - l) / S < m then .int (if dn = true then m - 1 - (cn - l) / S else (cn - l) / S) else .non
def spTO : Sp := fun vs H Q _ => ∃ (p : Addr) (a c d x z u S n cn : Int) (dn : Bool), vs = [.ref p, .int n, .int cn] ∧ LpAt K H p a c d x z u S dn ∧ RgOk a c d ∧ RgOk x z u ∧ 1 ≤ S ∧ S ≤ 16 ∧
  ∀ H', Same H H' → Q (to_ (lc_ (pv_ a c d n) S) S (mn_ a c d x z u S n) cn dn) H'
def spLI : Sp := fun vs H Q _ => ∃ (p dx : Addr) (v1 v2 : V) (l : Addr) (xs : List V) (a c d x z u S : Int) (dn : Bool), vs = [.ref p, v1, v2, .ref l, .int S, .bl dn] ∧ H p = some (.ins (CL K) dx []) ∧ PlV K H v1 a c d ∧ PlV K H v2 x z u ∧
  (H l = some (.lst xs) ∨ H l = some (.tup xs)) ∧ (xs.length : Int) ≤ 16 ∧ RgOk a c d ∧ RgOk x z u ∧ 1 ≤ S ∧ S ≤ 16 ∧ (S = 1 ∨ d = 1) ∧
  ∀ lo hi st H', H' p = some (.ins (CL K) dx (lpf lo hi st S dn)) → PlcAt K H' lo 0 a c d → PlcAt K H' hi 0 x z u → Keep p H H' → Q .non H'
end
theorem plc_up {K : PySem.W.Frag} {H H2 : Hp} {p q dx : Addr} {fs : List (Str × V)} {a c d : Int} (h : PlcAt K H q 0 a c d) (hp : H p = some (.ins (CL K) dx fs)) (h2 : ∀ b o, b ≠ p → H b = some o → H2 b = some o) (nl : fs.lookup ("straight" : Str) = none) (ni : fs.lookup ("i" : Str) = none) : PlcAt K H2 q 0 a c d := by
  obtain ⟨dq, r, h1, ds, h3⟩ := h
  have n1 : q ≠ p := fun z => by
    rw [z, hp] at h1
    have e : fs = pf r d := congrArg (fun o : Option HO => match o with | some (.ins _ _ fs) => fs | _ => []) h1
    have l := pf_s r d
    rw [← e, nl] at l
    cases l
  have n2 : r ≠ p := fun z => by
    rw [z, hp] at h3
    have e : fs = sf 0 a c := congrArg (fun o : Option HO => match o with | some (.ins _ _ fs) => fs | _ => []) h3
    have l := sf_i 0 a c
    rw [← e, ni] at l
    cases l
  exact ⟨dq, r, h2 _ _ n1 h1, ds, h2 _ _ n2 h3⟩
theorem nl_1 (v : V) : (putF "low" v []).lookup ("straight" : Str) = none ∧ (putF "low" v []).lookup ("i" : Str) = none := by
  rw [lookup_putF, if_neg (by decide +kernel), lookup_putF, if_neg (by decide +kernel)]
  exact ⟨rfl, rfl⟩
section
variable {P : Program} {w : World} {K : PySem.W.Frag} {mg : Str → Option Value} {base : Heap}
theorem scLoopleast_counter : FnScope ["self", "n", "low"] ["self", "n"] (defScope iLoopleast_counter) := ⟨rfl, rfl, rfl, by decide +kernel, rfl, by decide +kernel, by decide +kernel⟩
theorem ok_LC {fd : FuncData} (F : FnM K "Loop" "least_counter" "Loop.least_counter" iLoopleast_counter fd) (T : LpTx K mg) (C : PC P w K mg base) : FnOk P w K mg base CX0 3 (He.ma K (CL K) "least_counter") fd ["self", "n"] (spLC K) := by
  refine F.ok scLoopleast_counter (fun vs H Q E h => ?_) (fun cdv A outer s H vs Q E hr h => ?_)
  · obtain ⟨p, a, c, d, x, z, u, S, n, dn, rfl, _⟩ := h
    rfl
  · obtain ⟨p, a, c, d, x, z, u, S, n, dn, rfl, ⟨dx, lo, hi, st, hp, hlo, _⟩, ⟨r1, r2, r3, r4, r5, r6⟩, S1, S2, k⟩ := h
    obtain ⟨fdc, Fc, hbc, cc⟩ := C.call
    refine ⟨_, PSs.nox (pss_cons (ps_set (i := 2) scLoopleast_counter.nd rfl (Or.inl rfl) (pe_fcall (pv 0) cc (FnOk.raw Fc hbc .nil) (hr.mono (by decide)) pass0 (pa_cons pe_int (pa_cons (pv 1) pa_nil))))
      (pss_one (ps_ret (pe_ifExp (pt_cmpR op_ge (pv 2) pe_int (nomark _)) (pv 2) (pe_op op_modN (pv 2) (pe_fld (pv 0) rfl)))))), ?_⟩
    obtain ⟨dh, qh, hh, _⟩ := id hlo
    have sm : ∀ y : Int, 0 ≤ y → y ≤ 3 → Sm y := fun y h0 h3 => by unfold Sm; omega
    refine ⟨_, rfl, p, _, dx, _, lo, rfl, hp, T.clL, T.nLo, lp_lo _ _ _ _ _, _, rfl, ⟨_, _, hh⟩, lo, 0, a, c, d, 0, n, rfl, hlo, sm 0 (by decide) (by decide), sm a r1 r2, by omega, by omega, ?_⟩
    have e : (0 : Int) * 0 + a * n + c = a * n + c := by omega
    rw [e]
    unfold lc_ pv_ at k
    refine ⟨_, rfl, _, _, rfl, rfl, _, rfl, ite2 (fun h => ?_) (fun h => ?_)⟩
    · rw [if_pos (of_decide_eq_true h)] at k
      exact ⟨_, rfl, k⟩
    · rw [if_neg (fun z => h (decide_eq_true z))] at k
      exact ⟨_, rfl, _, rfl, p, _, dx, _, _, rfl, hp, T.clL, T.nSp, lp_st _ _ _ _ _, _, _, rfl, rfl, by omega, k⟩
/-- the first method of a loop -/
def LM1 (P : Program) (w : World) (K : PySem.W.Frag) (mg : Str → Option Value) (base : Heap) : Prop := ∃ fd, FnOk P w K mg base CX0 3 (He.ma K (CL K) "least_counter") fd ["self", "n"] (spLC K) ∧ Binds K fd ["self", "n"] [] ∧ Meth K (CL K) "least_counter" (He.ma K (CL K) "least_counter")
theorem lp_no (lo hi st : Addr) (S : Int) (dn : Bool) {m : Str} (h1 : ¬ m = "low") (h2 : ¬ m = "high") (h3 : ¬ m = "statements") (h4 : ¬ m = "step") (h5 : ¬ m = "down") : (lpf lo hi st S dn).lookup m = none := by
  unfold lpf
  rw [lookup_putF, if_neg h5, lookup_putF, if_neg h4, lookup_putF, if_neg h3, lookup_putF, if_neg h2, lookup_putF, if_neg h1]
  rfl
theorem no_lc (lo hi st : Addr) (S : Int) (dn : Bool) : (lpf lo hi st S dn).lookup ("least_counter" : Str) = none := lp_no _ _ _ _ _ (by decide +kernel) (by decide +kernel) (by decide +kernel) (by decide +kernel) (by decide +kernel)
theorem scLoopmany_turns : FnScope ["self", "n"] ["self", "n"] (defScope iLoopmany_turns) := ⟨rfl, rfl, rfl, by decide +kernel, rfl, by decide +kernel, by decide +kernel⟩
theorem ok_MT {fd : FuncData} (F : FnM K "Loop" "many_turns" "Loop.many_turns" iLoopmany_turns fd) (T : LpTx K mg) (L : LM1 P w K mg base) (dTurns : Dn P w K mg base 3 "turns_from" ["loop", "least", "n"] (spTurns K)) : FnOk P w K mg base CX0 4 (He.ma K (CL K) "many_turns") fd ["self", "n"] (spMT K) := by
  refine F.ok scLoopmany_turns (fun vs H Q E h => ?_) (fun cdv A outer s H vs Q E hr h => ?_)
  · obtain ⟨p, a, c, d, x, z, u, S, n, dn, rfl, _⟩ := h
    rfl
  · obtain ⟨p, a, c, d, x, z, u, S, n, dn, rfl, hL, r1, r2, S1, S2, k⟩ := h
    obtain ⟨fdl, Fl, hbl, cl⟩ := L
    refine ⟨_, PSs.nox (pss_one (ps_ret (pe_dn dTurns hr (pa_cons (pv 0) (pa_cons (pe_meth (pv 0) T.clL cl Fl (hr.mono (by decide)) hbl .nil pass0 (pa_cons (pv 1) pa_nil)) (pa_cons (pv 1) pa_nil)))))), ?_⟩
    obtain ⟨dx, lo, hi, st, hp, _⟩ := id hL
    exact ⟨_, rfl, _, rfl, p, dx, _, rfl, hp, no_lc _ _ _ _ _, _, rfl, p, a, c, d, x, z, u, S, n, dn, rfl, hL, r1, S1, S2, _, rfl, p, a, c, d, x, z, u, S, _, n, dn, rfl, hL, r2, S1, S2, k⟩
theorem scLoopcounter_of : FnScope ["self", "n", "turn", "least", "many", "place"] ["self", "n", "turn"] (defScope iLoopcounter_of) := ⟨rfl, rfl, rfl, by decide +kernel, rfl, by decide +kernel, by decide +kernel⟩
theorem ok_CO {fd : FuncData} (F : FnM K "Loop" "counter_of" "Loop.counter_of" iLoopcounter_of fd) (T : LpTx K mg) (L : LM1 P w K mg base) (MB : Mx P w K mg base "BadNumber" ["self", "what", "number"] ["what", "number"]) (dTurns : Dn P w K mg base 3 "turns_from" ["loop", "least", "n"] (spTurns K))
    (dIsIntFrom : Dn P w K mg base 2 "is_integer_from" ["value", "low", "high"] spIntFrom) : FnOk P w K mg base (L2.CX P w) 4 (He.ma K (CL K) "counter_of") fd ["self", "n", "turn"] (spCO K) := by
  refine F.ok scLoopcounter_of (fun vs H Q E h => ?_) (fun cdv A outer s H vs Q E hr h => ?_)
  · obtain ⟨p, a, c, d, x, z, u, S, n, k, dn, rfl, _⟩ := h
    rfl
  · obtain ⟨p, a, c, d, x, z, u, S, n, k, dn, rfl, hL, r1, r2, S1, S2, k1, k2⟩ := h
    obtain ⟨fdl, Fl, hbl, cl⟩ := L
    refine ⟨_, (pss_cons (ps_set (i := 3) scLoopcounter_of.nd rfl (Or.inl rfl) (pe_meth (pv 0) T.clL cl Fl (hr.mono (by decide)) hbl .nil pass0 (pa_cons (pv 1) pa_nil)))
      (pss_cons (ps_set (i := 4) scLoopcounter_of.nd rfl (Or.inl rfl) (pe_dn dTurns hr (pa_cons (pv 0) (pa_cons (pv 3) (pa_cons (pv 1) pa_nil)))))
      (pss_cons (ps_if (pt_not (pt_val (pe_dn dIsIntFrom hr (pa_cons (pv 2) (pa_cons pe_int (pa_cons (pe_op op_sub (pv 4) pe_int) pa_nil)))))) (pss_one (ps_raise rfl (takes_of rfl rfl rfl rfl) (pmk_err MB hr (pa_cons pe_str (pa_cons (pv 2) pa_nil))))) pss_nil)
      (pss_cons (ps_set (i := 5) scLoopcounter_of.nd rfl (Or.inl rfl) (pe_ifExp (pt_val (pe_fld (pv 0) rfl)) (pe_op op_sub (pe_op op_sub (pv 4) pe_int) (pv 2)) (pv 2)))
      (pss_one (ps_ret (pe_op op_add (pv 3) (pe_op op_mul (pv 5) (pe_fld (pv 0) rfl))))))))), ?_⟩
    obtain ⟨dx, lo, hi, st, hp, _⟩ := id hL
    refine ⟨_, rfl, p, dx, _, rfl, hp, no_lc _ _ _ _ _, _, rfl, p, a, c, d, x, z, u, S, n, dn, rfl, hL, r1, S1, S2, ?_⟩
    refine ⟨_, rfl, _, rfl, _, rfl, p, a, c, d, x, z, u, S, _, n, dn, rfl, hL, r2, S1, S2, ?_⟩
    refine ⟨_, rfl, _, rfl, _, _, rfl, rfl, k, 0, _, rfl, ?_⟩
    by_cases hq : 0 ≤ k ∧ k ≤ mn_ a c d x z u S n - 1
    · have k3 := k2 hq.1 hq.2
      unfold mn_ at hq k3
      rw [decide_eq_true hq]
      refine ⟨_, rfl, iteF ?_⟩
      refine ⟨_, rfl, p, _, dx, _, _, rfl, hp, T.clL, T.nDn, lp_dn _ _ _ _ _, ?_⟩
      cases dn
      · exact ⟨_, rfl, iteF ⟨_, rfl, _, rfl, _, rfl, _, rfl, p, _, dx, _, _, rfl, hp, T.clL, T.nSp, lp_st _ _ _ _ _, _, _, rfl, rfl, .inr ⟨by omega, by omega⟩, _, _, rfl, rfl, k3⟩⟩
      · exact ⟨_, rfl, iteT ⟨_, rfl, _, _, rfl, rfl, _, rfl, _, _, rfl, rfl, _, rfl, _, rfl, _, rfl, p, _, dx, _, _, rfl, hp, T.clL, T.nSp, lp_st _ _ _ _ _, _, _, rfl, rfl, .inr ⟨by omega, by omega⟩, _, _, rfl, rfl, k3⟩⟩
    · have k3 := k1 hq
      unfold mn_ at hq
      rw [decide_eq_false hq]
      refine ⟨_, rfl, iteT ?_⟩
      exact ⟨_, rfl, err_go (K := K) (x := "BadNumber") (fs := ["what", "number"]) (by show 2 ≤ 1000; decide) rfl fun e H' s he => k3 e H' s he⟩
theorem scLoopturn_of : FnScope ["self", "n", "counter", "least", "many", "place", "rest"] ["self", "n", "counter"] (defScope iLoopturn_of) := ⟨rfl, rfl, rfl, by decide +kernel, rfl, by decide +kernel, by decide +kernel⟩
theorem ok_TO {fd : FuncData} (F : FnM K "Loop" "turn_of" "Loop.turn_of" iLoopturn_of fd) (T : LpTx K mg) (L : LM1 P w K mg base) (dTurns : Dn P w K mg base 3 "turns_from" ["loop", "least", "n"] (spTurns K)) : FnOk P w K mg base CX0 4 (He.ma K (CL K) "turn_of") fd ["self", "n", "counter"] (spTO K) := by
  refine F.ok scLoopturn_of (fun vs H Q E h => ?_) (fun cdv A outer s H vs Q E hr h => ?_)
  · obtain ⟨p, a, c, d, x, z, u, S, n, cn, dn, rfl, _⟩ := h
    rfl
  · obtain ⟨p, a, c, d, x, z, u, S, n, cn, dn, rfl, hL, r1, r2, S1, S2, k⟩ := h
    obtain ⟨fdl, Fl, hbl, cl⟩ := L
    refine ⟨_, PSs.nox (pss_cons (ps_set (i := 3) scLoopturn_of.nd rfl (Or.inl rfl) (pe_meth (pv 0) T.clL cl Fl (hr.mono (by decide)) hbl .nil pass0 (pa_cons (pv 1) pa_nil)))
      (pss_cons (ps_set (i := 4) scLoopturn_of.nd rfl (Or.inl rfl) (pe_dn dTurns hr (pa_cons (pv 0) (pa_cons (pv 3) (pa_cons (pv 1) pa_nil)))))
      (pss_cons (ps_asg (pe_callB call_divmod (by rfl) T.divmod (by decide +kernel) (pa_cons (pe_op op_sub (pv 2) (pv 3)) (pa_cons (pe_fld (pv 0) rfl) pa_nil))) (pg_tup (by rfl) (pgs_cons (pg_name (i := 5) scLoopturn_of.nd rfl (.inl rfl)) (pgs_cons (pg_name (i := 6) scLoopturn_of.nd rfl (.inl rfl)) pgs_nil))))
      (pss_cons (ps_if (PW.pt (pw_or (pt_cmpR op_ne (pv 6) pe_int (nomark _)) (pw_or1 (pt_not (pt_chain op_le op_lt pe_int (pv 5) (pv 4)))))) (pss_one (ps_ret pe_non)) pss_nil)
      (pss_one (ps_ret (pe_ifExp (pt_val (pe_fld (pv 0) rfl)) (pe_op op_sub (pe_op op_sub (pv 4) pe_int) (pv 5)) (pv 5)))))))), ?_⟩
    obtain ⟨dx, lo, hi, st, hp, _⟩ := id hL
    refine ⟨_, rfl, p, dx, _, rfl, hp, no_lc _ _ _ _ _, _, rfl, p, a, c, d, x, z, u, S, n, dn, rfl, hL, r1, S1, S2, ?_⟩
    refine ⟨_, rfl, _, rfl, _, rfl, p, a, c, d, x, z, u, S, _, n, dn, rfl, hL, r2, S1, S2, ?_⟩
    refine ⟨_, rfl, _, rfl, _, _, rfl, rfl, _, rfl, p, _, dx, _, _, rfl, hp, T.clL, T.nSp, lp_st _ _ _ _ _, _, _, rfl, ⟨by omega, by omega⟩, fun tt htt => ?_⟩
    refine ⟨tt, _, rfl, SqT.of upd_same, rfl, _, _, rfl, _, _, rfl, rfl, ?_⟩
    have k1 := k _ (Same.new (.tup [.int ((cn - lc_ (pv_ a c d n) S) / S), .int ((cn - lc_ (pv_ a c d n) S) % S)]) (Same.refl H) htt)
    have hp1 := at_upd (.tup [.int ((cn - lc_ (pv_ a c d n) S) / S), .int ((cn - lc_ (pv_ a c d n) S) % S)]) hp htt
    unfold to_ mn_ at k1
    refine ⟨_, rfl, rfl, _, rfl, ?_⟩
    by_cases h0 : (cn - lc_ (pv_ a c d n) S) % S = 0
    · refine if_no (not_dec (congrArg V.int h0)) ?_
      refine ⟨_, rfl, _, _, rfl, rfl, _, rfl, ite2 (fun h1 => ?_) (fun h1 => ?_)⟩
      · have h1' : 0 ≤ (cn - lc_ (pv_ a c d n) S) / S := of_decide_eq_true h1
        refine ⟨_, rfl, _, _, rfl, rfl, _, rfl, ?_⟩
        by_cases h2 : (cn - lc_ (pv_ a c d n) S) / S < mt_ (lc_ (pv_ a c d n) S) (pv_ x z u n) S
        · rw [if_pos ⟨h0, h1', h2⟩] at k1
          rw [decide_eq_true h2]
          refine if_no rfl ?_
          refine ⟨_, rfl, p, _, dx, _, _, rfl, hp1, T.clL, T.nDn, lp_dn _ _ _ _ _, ?_⟩
          cases dn
          · exact ⟨_, rfl, iteF ⟨_, rfl, k1⟩⟩
          · exact ⟨_, rfl, iteT ⟨_, rfl, _, _, rfl, rfl, _, rfl, _, _, rfl, rfl, k1⟩⟩
        · rw [if_neg (fun y => h2 y.2.2)] at k1
          rw [decide_eq_false h2]
          exact if_yes rfl k1
      · have h1' : ¬ 0 ≤ (cn - lc_ (pv_ a c d n) S) / S := fun y => h1 (decide_eq_true y)
        rw [if_neg (fun y => h1' y.2.1)] at k1
        exact ⟨_, rfl, if_yes rfl k1⟩
    · rw [if_neg (fun y => h0 y.1)] at k1
      refine if_yes (by rw [decide_eq_false (fun y => h0 (V.int.inj y))]; rfl) k1
/-- what may be called as Loop(low, high, statements, ..) -/
theorem scLoop__init__ : FnScope ["self", "low", "high", "statements", "step", "down"] ["self", "low", "high", "statements", "step", "down"] (defScope iLoop__init__) := ⟨rfl, rfl, rfl, by decide +kernel, rfl, by decide +kernel, by decide +kernel⟩
theorem ok_LI {fd : FuncData} {kws : List (Str × V)} (F : FunD K "__init__" "Loop.__init__" (defArgs iLoop__init__) (defBody iLoop__init__) (defScope iLoop__init__) [] kws (He.ma K (CL K) "__init__") fd) (T : LpTx K mg) (dMany : Dn P w K mg base 1 "check_many" ["what", "things", "most"] (spMany K))
    (dNumber : Dn P w K mg base 1 "check_number" ["what", "number", "low", "high"] spNumber) (dPLike : Dn P w K mg base 6 "place_like" ["value"] (spPLike K)) (dRange : Dn P w K mg base 2 "check_range_place" ["place"] (spRange K)) :
    FnOk P w K mg base CX0 7 (He.ma K (CL K) "__init__") fd ["self", "low", "high", "statements", "step", "down"] (spLI K) := by
  refine F.ok scLoop__init__ (fun vs H Q E h => ?_) (fun cdv A outer s H vs Q E hr h => ?_)
  · obtain ⟨p, dx, v1, v2, l, xs, a, c, d, x, z, u, S, dn, rfl, _⟩ := h
    rfl
  · obtain ⟨p, dx, v1, v2, l, xs, a, c, d, x, z, u, S, dn, rfl, hp, hv1, hv2, hl, hx, r1, r2, S1, S2, hSd, k⟩ := h
    obtain ⟨tTOP_STEP, hTOP_STEP⟩ := T.t4
    obtain ⟨tMOST_STATEMENTS, hMOST_STATEMENTS⟩ := T.t5
    refine ⟨_, PSs.nox (pss_cons (ps_expr (pe_dn dMany hr (pa_cons pe_str (pa_cons (pv 3) (pa_cons (pe_glob (v := .int 16) rfl hMOST_STATEMENTS ⟨tMOST_STATEMENTS, rfl⟩) pa_nil)))))
      (pss_cons (ps_expr (pe_dn dNumber hr (pa_cons pe_str (pa_cons (pv 4) (pa_cons pe_int (pa_cons (pe_glob (v := .int 16) rfl hTOP_STEP ⟨tTOP_STEP, rfl⟩) pa_nil))))))
      (pss_cons (ps_fld (pv 0) (pe_dn dPLike hr (pa_cons (pv 1) pa_nil)) rfl)
      (pss_cons (ps_fld (pv 0) (pe_dn dPLike hr (pa_cons (pv 2) pa_nil)) rfl)
      (pss_cons (ps_expr (pe_dn dRange hr (pa_cons (pe_fld (pv 0) rfl) pa_nil)))
      (pss_cons (ps_expr (pe_dn dRange hr (pa_cons (pe_fld (pv 0) rfl) pa_nil)))
      (pss_cons (ps_if (PW.pt (pw_and (pt_cmpR op_gt (pv 4) pe_int (nomark _)) (pw_and1 (pt_cmpR op_gt (pe_fld (pe_fld (pv 0) rfl) rfl) pe_int (nomark _))))) (pss_one ps_never) pss_nil)
      (pss_cons (ps_fld (pv 0) (pe_callTy call_tuple_of (by rfl) T.tuple (by decide +kernel) (pa_cons (pv 3) pa_nil)) rfl)
      (pss_cons (ps_fld (pv 0) (pv 4) rfl)
      (pss_one (ps_fld (pv 0) (pv 5) rfl))))))))))), ?_⟩
    refine ⟨_, rfl, _, _, _, _, rfl, hl.imp SqL.of SqT.of, hx, ?_⟩
    refine ⟨_, rfl, _, _, _, _, rfl, S1, S2, ?_⟩
    refine ⟨_, rfl, v1, a, c, d, rfl, hv1, fun lo H1 s1 hlo => ?_⟩
    refine ⟨_, rfl, p, _, dx, _, rfl, s1 _ _ hp, T.clL, T.nLo, (by show 0 < 1000; decide), ?_⟩
    have hp1 := s1 _ _ hp
    have up1 : ∀ (fs : List (Str × V)) (b : Addr) (o : HO), b ≠ p → H1 b = some o → (upd H1 p (.ins (CL K) dx fs)) b = some o := fun fs b o nb e => by rw [upd_ne nb]; exact e
    have lo2 := plc_up hlo hp1 (up1 (putF "low" (.ref lo) [])) rfl rfl
    have hv3 : PlV K (upd H1 p (.ins (CL K) dx (putF "low" (.ref lo) []))) v2 x z u := by
      rcases hv2 with ⟨q, e, hq⟩ | e
      · exact .inl ⟨q, e, plc_up (hq.same s1) hp1 (up1 _) rfl rfl⟩
      · exact .inr e
    refine ⟨_, rfl, v2, x, z, u, rfl, hv3, fun hi H3 s3 hhi => ?_⟩
    have hp3 : H3 p = some (.ins (CL K) dx (putF "low" (.ref lo) [])) := s3 _ _ upd_same
    have lo3 := lo2.same s3
    refine ⟨_, rfl, p, _, dx, _, rfl, hp3, T.clL, T.nHi, len1 _ _, ?_⟩
    have up3 : ∀ (fs : List (Str × V)) (b : Addr) (o : HO), b ≠ p → H3 b = some o → (upd H3 p (.ins (CL K) dx fs)) b = some o := fun fs b o nb e => by rw [upd_ne nb]; exact e
    have nn := nl_1 (.ref lo)
    have lo4 := plc_up lo3 hp3 (up3 (putF "high" (.ref hi) (putF "low" (.ref lo) []))) nn.1 nn.2
    have hi4 := plc_up hhi hp3 (up3 (putF "high" (.ref hi) (putF "low" (.ref lo) []))) nn.1 nn.2
    have ll : (putF "high" (.ref hi) (putF "low" (.ref lo) [])).lookup ("low" : Str) = some (.ref lo) := by
      rw [lookup_putF, if_neg n_lh, lookup_putF, if_pos rfl]
    have lh : (putF "high" (.ref hi) (putF "low" (.ref lo) [])).lookup ("high" : Str) = some (.ref hi) := by
      rw [lookup_putF, if_pos rfl]
    refine ⟨_, rfl, p, _, dx, _, _, rfl, upd_same, T.clL, T.nLo, ll, lo, a, c, d, rfl, lo4, r1, ?_⟩
    refine ⟨_, rfl, p, _, dx, _, _, rfl, upd_same, T.clL, T.nHi, lh, hi, x, z, u, rfl, hi4, r2, ?_⟩
    have fin : ∀ (st : Addr) (H5 : Hp), (∀ b o, b ≠ p → H3 b = some o → H5 b = some o) → H5 p = some (.ins (CL K) dx (putF "high" (.ref hi) (putF "low" (.ref lo) []))) → PlcAt K H5 lo 0 a c d → PlcAt K H5 hi 0 x z u →
        Q .non (upd (upd (upd H5 p (.ins (CL K) dx (putF "statements" (.ref st) (putF "high" (.ref hi) (putF "low" (.ref lo) []))))) p (.ins (CL K) dx (putF "step" (.int S) (putF "statements" (.ref st) (putF "high" (.ref hi) (putF "low" (.ref lo) [])))))) p (.ins (CL K) dx (lpf lo hi st S dn))) := by
      intro st H5 hk h5 l5 i5
      have nl : (putF "high" (V.ref hi) (putF "low" (V.ref lo) [])).lookup ("straight" : Str) = none := by
        rw [lookup_putF, if_neg (by decide +kernel)]
        exact (nl_1 _).1
      have ni : (putF "high" (V.ref hi) (putF "low" (V.ref lo) [])).lookup ("i" : Str) = none := by
        rw [lookup_putF, if_neg (by decide +kernel)]
        exact (nl_1 _).2
      have up5 : ∀ (b : Addr) (o : HO), b ≠ p → H5 b = some o → (upd (upd (upd H5 p (.ins (CL K) dx (putF "statements" (.ref st) (putF "high" (.ref hi) (putF "low" (.ref lo) []))))) p (.ins (CL K) dx (putF "step" (.int S) (putF "statements" (.ref st) (putF "high" (.ref hi) (putF "low" (.ref lo) [])))))) p (.ins (CL K) dx (lpf lo hi st S dn))) b = some o := fun b o nb e => by
        rw [upd_ne nb, upd_ne nb, upd_ne nb]
        exact e
      refine k lo hi st _ upd_same (plc_up l5 h5 up5 nl ni) (plc_up i5 h5 up5 nl ni) (fun b o nb e => ?_)
      refine up5 b o nb (hk b o nb (s3 _ _ ?_))
      rw [upd_ne nb]
      exact s1 _ _ e
    have lim : ∀ (f1 f2 f3 : Str) (a1 a2 a3 : V), (putF f1 a1 (putF f2 a2 (putF f3 a3 []))).length < 1000 := fun f1 f2 f3 a1 a2 a3 => Nat.lt_of_le_of_lt (Nat.le_trans (length_putF _ _ _) (Nat.add_le_add_right (Nat.le_trans (length_putF _ _ _) (Nat.add_le_add_right (length_putF _ _ _) 1)) 1)) (by show 3 < 1000; decide)
    have lim4 : ∀ (f1 f2 f3 f4 : Str) (a1 a2 a3 a4 : V), (putF f1 a1 (putF f2 a2 (putF f3 a3 (putF f4 a4 [])))).length < 1000 := fun f1 f2 f3 f4 a1 a2 a3 a4 => Nat.lt_of_le_of_lt (Nat.le_trans (length_putF _ _ _) (Nat.add_le_add_right (Nat.le_trans (length_putF _ _ _) (Nat.add_le_add_right (Nat.le_trans (length_putF _ _ _) (Nat.add_le_add_right (length_putF _ _ _) 1)) 1)) 1)) (by show 4 < 1000; decide)
    have nlp : ∀ o, H l = some o → (∀ C d fs, o ≠ .ins C d fs) → l ≠ p := fun o e nz w => by
      rw [w, hp] at e
      exact nz _ _ _ (Option.some.inj e).symm
    have rest : ∀ (H5 : Hp), H5 = upd H3 p (.ins (CL K) dx (putF "high" (.ref hi) (putF "low" (.ref lo) []))) → (∀ o, H l = some o → (∀ C d fs, o ≠ .ins C d fs) → H5 l = some o) := fun H5 e o el nz => by
      subst e
      have n := nlp o el nz
      rw [upd_ne n]
      refine s3 _ _ ?_
      rw [upd_ne n]
      exact s1 _ _ el
    refine ⟨_, rfl, _, _, rfl, rfl, _, rfl, ?_⟩
    have lod := lo4
    obtain ⟨dq, rq, hq1, _⟩ := lod
    by_cases hS : S = 1
    · subst hS
      refine iteF ?_
      rcases hl with hl | hl
      · have hl5 := rest _ rfl _ hl (fun _ _ _ z => by cases z)
        refine ⟨_, rfl, l, xs, rfl, .inl ⟨SqL.of hl5, fun st hst => ?_⟩⟩
        have npst : p ≠ st := fun w => by
          rw [← w, upd_same] at hst
          cases hst
        have sT := Same.new (.tup xs) (Same.refl (upd H3 p (.ins (CL K) dx (putF "high" (.ref hi) (putF "low" (.ref lo) []))))) hst
        have h5 := sT _ _ (upd_same (H := H3) (a := p))
        refine ⟨_, rfl, p, _, dx, _, rfl, h5, T.clL, T.nSt, len2 _ _ _ _, ?_⟩
        refine ⟨_, rfl, _, rfl, p, _, dx, _, rfl, upd_same, T.clL, T.nSp, lim _ _ _ _ _ _, ?_⟩
        refine ⟨_, rfl, _, rfl, p, _, dx, _, rfl, upd_same, T.clL, T.nDn, lim4 _ _ _ _ _ _ _ _, ?_⟩
        exact fin st _ (fun b o nb e => sT _ _ (up3 _ b o nb e)) h5 (lo4.same sT) (hi4.same sT)
      · have hl5 := rest _ rfl _ hl (fun _ _ _ z => by cases z)
        refine ⟨_, rfl, l, xs, rfl, .inr ⟨SqT.of hl5, ?_⟩⟩
        refine ⟨_, rfl, p, _, dx, _, rfl, upd_same, T.clL, T.nSt, len2 _ _ _ _, ?_⟩
        refine ⟨_, rfl, _, rfl, p, _, dx, _, rfl, upd_same, T.clL, T.nSp, lim _ _ _ _ _ _, ?_⟩
        refine ⟨_, rfl, _, rfl, p, _, dx, _, rfl, upd_same, T.clL, T.nDn, lim4 _ _ _ _ _ _ _ _, ?_⟩
        exact fin l _ (fun b o nb e => up3 _ b o nb e) upd_same lo4 hi4
    · have hd : d = 1 := hSd.resolve_left hS
      subst hd
      have hS2 : 1 < S := by omega
      rw [decide_eq_true hS2]
      refine iteT ?_
      refine ⟨_, rfl, p, _, dx, _, _, rfl, upd_same, T.clL, T.nLo, ll, lo, _, dq, _, _, rfl, hq1, T.clP, T.nD, pf_d _ _, _, _, rfl, rfl, _, rfl, iteF ?_⟩
      rcases hl with hl | hl
      · have hl5 := rest _ rfl _ hl (fun _ _ _ z => by cases z)
        refine ⟨_, rfl, l, xs, rfl, .inl ⟨SqL.of hl5, fun st hst => ?_⟩⟩
        have npst : p ≠ st := fun w => by
          rw [← w, upd_same] at hst
          cases hst
        have sT := Same.new (.tup xs) (Same.refl (upd H3 p (.ins (CL K) dx (putF "high" (.ref hi) (putF "low" (.ref lo) []))))) hst
        have h5 := sT _ _ (upd_same (H := H3) (a := p))
        refine ⟨_, rfl, p, _, dx, _, rfl, h5, T.clL, T.nSt, len2 _ _ _ _, ?_⟩
        refine ⟨_, rfl, _, rfl, p, _, dx, _, rfl, upd_same, T.clL, T.nSp, lim _ _ _ _ _ _, ?_⟩
        refine ⟨_, rfl, _, rfl, p, _, dx, _, rfl, upd_same, T.clL, T.nDn, lim4 _ _ _ _ _ _ _ _, ?_⟩
        exact fin st _ (fun b o nb e => sT _ _ (up3 _ b o nb e)) h5 (lo4.same sT) (hi4.same sT)
      · have hl5 := rest _ rfl _ hl (fun _ _ _ z => by cases z)
        refine ⟨_, rfl, l, xs, rfl, .inr ⟨SqT.of hl5, ?_⟩⟩
        refine ⟨_, rfl, p, _, dx, _, rfl, upd_same, T.clL, T.nSt, len2 _ _ _ _, ?_⟩
        refine ⟨_, rfl, _, rfl, p, _, dx, _, rfl, upd_same, T.clL, T.nSp, lim _ _ _ _ _ _, ?_⟩
        refine ⟨_, rfl, _, rfl, p, _, dx, _, rfl, upd_same, T.clL, T.nDn, lim4 _ _ _ _ _ _ _ _, ?_⟩
        exact fin l _ (fun b o nb e => up3 _ b o nb e) upd_same lo4 hi4
end
end K22

set_option maxHeartbeats 4000000
namespace K22
open PySem PySem.Spec PyProof.Rows L2 Z
structure LwTx (K : PySem.W.Frag) (mg : Str → Option Value) : Prop extends LpTx K mg where
  list : mg "list" = none
  range : mg "range" = none
  str : mg "str" = none
  all : mg "all" = none
def tup3 (a b c : Int) : HO := .tup [.int a, .int b, .int c]
theorem at0 {x : V} {l : List V} : atI (x :: l) 0 = some x := atI_nat (xs := x :: l) (j := 0) rfl
theorem at1 {x y : V} {l : List V} : atI (x :: y :: l) 1 = some y := atI_nat (xs := x :: y :: l) (j := 1) rfl
theorem at2 {x y z : V} {l : List V} : atI (x :: y :: z :: l) 2 = some z := atI_nat (xs := x :: y :: z :: l) (j := 2) rfl
theorem at3 {x y z u : V} {l : List V} : atI (x :: y :: z :: u :: l) 3 = some u := atI_nat (xs := x :: y :: z :: u :: l) (j := 3) rfl
theorem sz0 : 0 ≤ sizeLine := Nat.zero_le _
theorem sz3 : 3 ≤ sizeLine := by show 3 ≤ sizeLine; decide
theorem sz5 : 5 ≤ sizeLine := by show 5 ≤ sizeLine; decide
theorem sz7 : 7 ≤ sizeLine := by show 7 ≤ sizeLine; decide
theorem sqt3 {K : PySem.W.Frag} {H : Hp} {t : Addr} {a b c : Int} (h : H t = some (tup3 a b c)) : SqT K H t [.int a, .int b, .int c] := SqT.of h
/-- the row of a loop -/
def RowAt (H : Hp) (r : Addr) (a c d x z u S : Int) (dn : Bool) : Prop := ∃ t1 t2 t3, H r = some (.tup [.ref t1, .ref t2, .int S, .bl dn, .ref t3]) ∧ H t1 = some (tup3 a c d) ∧ H t2 = some (tup3 x z u)
theorem RowAt.same {H H' : Hp} {r : Addr} {a c d x z u S : Int} {dn : Bool} (h : RowAt H r a c d x z u S dn) (s : Same H H') : RowAt H' r a c d x z u S dn := by
  obtain ⟨t1, t2, t3, h1, h2, h3⟩ := h
  exact ⟨t1, t2, t3, s _ _ h1, s _ _ h2, s _ _ h3⟩
theorem RowAt.keep {H H' : Hp} {r q : Addr} {t : Nat} {a c d x z u S : Int} {dn : Bool} (h : RowAt H r a c d x z u S dn) (hp : Pen H q t) (k : Keep q H H') : RowAt H' r a c d x z u S dn := by
  obtain ⟨t1, t2, t3, h1, h2, h3⟩ := h
  exact ⟨t1, t2, t3, k _ _ (hp.ne h1 fun _ z => by cases z) h1, k _ _ (hp.ne h2 fun _ z => by cases z) h2, k _ _ (hp.ne h3 fun _ z => by cases z) h3⟩
/-- the bounds of a row as it is drawn -/
def RwOk (a c d x z u S : Int) : Prop := 0 ≤ a ∧ a ≤ 1 ∧ -8 ≤ c ∧ c ≤ 5 ∧ 1 ≤ d ∧ d ≤ 3 ∧ 0 ≤ x ∧ x ≤ 3 ∧ -6 ≤ z ∧ z ≤ 17 ∧ 1 ≤ u ∧ u ≤ 3 ∧ 1 ≤ S ∧ S ≤ 16 ∧ (S = 1 ∨ d = 1)
def spInteger : Sp := fun vs H Q _ => ∃ i, vs = [.int i] ∧ Q (.bl true) H
/-- the counters of the turns, in order -/
def due (l S : Int) (m : Nat) (dn : Bool) : List Int := (List.range m).map fun (j : Nat) => l + (if dn = true then (m : Int) - 1 - (j : Int) else (j : Int)) * S
def spCounters (K : PySem.W.Frag) : Sp := fun vs H Q _ => ∃ (r : Addr) (a c d x z u S n : Int) (dn : Bool), vs = [.ref r, .int n] ∧ RowAt H r a c d x z u S dn ∧ RwOk a c d x z u S ∧ 0 ≤ n ∧ n ≤ 8 ∧
  ∀ D H', Same H H' → H' D = some (.lst ((due (lc_ (pv_ a c d n) S) S (mn_ a c d x z u S n).toNat dn).map V.int)) → Q (.ref D) H'
def spRow : Sp := fun vs H Q _ => ∃ (p : Addr) (t : Nat), vs = [.ref p] ∧ t < 900000000 ∧ Pen H p t ∧ ∀ H' r (a c d x z u S : Int) (dn : Bool), RowAt H' r a c d x z u S dn → RwOk a c d x z u S → Pen H' p (t + 8) → Keep p H H' → Q (.ref r) H'
theorem pv_bd {a c d n : Int} (h1 : 0 ≤ a) (h2 : a ≤ 3) (h3 : -20 ≤ c) (h4 : c ≤ 20) (h5 : 1 ≤ d) (n0 : 0 ≤ n) (n8 : n ≤ 8) : -50 ≤ pv_ a c d n ∧ pv_ a c d n ≤ 50 := by
  have e : 0 ≤ a * n ∧ a * n ≤ 24 := by
    have h7 : a = 0 ∨ a = 1 ∨ a = 2 ∨ a = 3 := by omega
    rcases h7 with z | z | z | z <;> subst z <;> omega
  exact fdiv_bd (by omega) (by decide) (by omega) (by omega)
/-- the walk of the row is that of the least counter on -/
theorem walk_due {lo hi S : Int} (hS : 1 ≤ S) : walk lo S (rn_ lo hi S).toNat = (List.range (mt_ (lc_ lo S) hi S).toNat).map fun (j : Nat) => lc_ lo S + (j : Int) * S := by
  unfold mt_
  rw [turns_eq hS]
  unfold lc_
  by_cases h : 0 ≤ lo
  · rw [if_pos h]
    have q := walk_eq (lo := lo) (c := S) (l := lo) (k := 0) hS h (by omega) (.inl rfl) (rn_ lo hi S).toNat
    rw [Nat.sub_zero] at q
    exact q
  · rw [if_neg h, fm (show 0 < S by omega)]
    have m0 := Int.emod_nonneg lo (show S ≠ 0 by omega)
    have m1 := Int.emod_lt_of_pos lo (show 0 < S by omega)
    have e := Int.emod_add_mul_ediv lo S
    have k0 : 0 ≤ -(lo / S) := by
      have : lo / S < 0 := Int.ediv_neg_of_neg_of_pos (by omega) (by omega)
      omega
    obtain ⟨k, hk⟩ : ∃ k : Nat, (k : Int) = -(lo / S) := ⟨(-(lo / S)).toNat, by omega⟩
    have e2 : lo % S = lo + (k : Int) * S := by
      rw [hk, Int.neg_mul, Int.mul_comm]
      omega
    have q := walk_eq (lo := lo) (c := S) (l := lo % S) (k := k) hS m0 e2 (.inr m1) (rn_ lo hi S).toNat
    rw [q]
    have cnt : (rn_ lo hi S).toNat - k = (rn_ (lo % S) hi S).toNat := by
      rw [rn_pos hS, rn_pos hS]
      by_cases c1 : lo < hi
      · rw [if_pos c1]
        have e3 : hi - lo - 1 = (hi - lo % S - 1) + (k : Int) * S := by omega
        rw [e3, Int.add_mul_ediv_right _ _ (by omega)]
        by_cases c2 : lo % S < hi
        · rw [if_pos c2]
          have := Int.ediv_nonneg (show 0 ≤ hi - lo % S - 1 by omega) (show 0 ≤ S by omega)
          omega
        · rw [if_neg c2]
          have : (hi - lo % S - 1) / S < 0 := Int.ediv_neg_of_neg_of_pos (by omega) (by omega)
          omega
      · rw [if_neg c1, if_neg (by omega)]
        exact Nat.zero_sub k
    rw [cnt]
theorem due_up (l S : Int) (m : Nat) : (List.range m).map (fun (j : Nat) => l + (j : Int) * S) = due l S m false := by
  unfold due
  simp
theorem due_dn (l S : Int) (m : Nat) : ((List.range m).map (fun (j : Nat) => l + (j : Int) * S)).reverse = due l S m true := by
  unfold due
  apply List.ext_getElem
  · simp
  · intro i h1 h2
    simp only [List.length_reverse, List.length_map, List.length_range] at h1
    simp [List.getElem_reverse]
    have e : ((m - 1 - i : Nat) : Int) = (m : Int) - 1 - (i : Int) := by omega
    rw [e]
section
variable {P : Program} {w : World} {K : PySem.W.Frag} {mg : Str → Option Value} {base : Heap}
theorem LwTx.bt (T : LwTx K mg) : Bt mg := ⟨T.int, T.len, T.list⟩
theorem sc_law_integer : FnScope ["_law_value"] ["_law_value"] (defScope s_law_integer) := ⟨rfl, rfl, rfl, by decide +kernel, rfl, by decide +kernel, by decide +kernel⟩
theorem ok_integer {f : Addr} {fd : FuncData} (F : FnP K "_law_integer" s_law_integer f fd) (T : LwTx K mg) : FnOk P w K mg base CX0 1 f fd ["_law_value"] spInteger := by
  refine F.ok sc_law_integer (fun vs H Q E h => ?_) (fun cdv A outer s H vs Q E hr h => ?_)
  · obtain ⟨v, rfl, _⟩ := h
    rfl
  · obtain ⟨i, rfl, q⟩ := h
    refine ⟨_, PSs.nox (pss_one (ps_ret (pe_and (pe_callB call_isi (by rfl) T.isi (by decide +kernel) (pa_cons (pv 0) (pa_cons (pe_bltn (v := .ty "int") (by rfl) T.int (by decide +kernel) rfl) pa_nil))) (pe_one (pe_not (pe_callB call_isi (by rfl) T.isi (by decide +kernel) (pa_cons (pv 0) (pa_cons (pe_bltn (v := .ty "bool") (by rfl) T.bool (by decide +kernel) rfl) pa_nil)))))))), ?_⟩
    refine ⟨_, rfl, _, _, _, _, _, rfl, .ty _, .base (.int i), kii, _, rfl, iteT ?_⟩
    exact ⟨_, rfl, _, _, _, _, _, rfl, .ty _, .base (.int i), kib, _, rfl, q⟩
theorem sc_law_counters : FnScope ["_law_row", "_law_n", "_law_low", "_law_high", "_law_found", "_law_counter"] ["_law_row", "_law_n"] (defScope s_law_counters) := ⟨rfl, rfl, rfl, by decide +kernel, rfl, by decide +kernel, by decide +kernel⟩
theorem ok_counters {f : Addr} {fd : FuncData} (F : FnP K "_law_counters" s_law_counters f fd) (T : LwTx K mg) : FnOk P w K mg base CX0 1 f fd ["_law_row", "_law_n"] (spCounters K) := by
  refine F.ok sc_law_counters (fun vs H Q E h => ?_) (fun cdv A outer s H vs Q E hr h => ?_)
  · obtain ⟨r, a, c, d, x, z, u, S, n, dn, rfl, _⟩ := h
    rfl
  · obtain ⟨r, a, c, d, x, z, u, S, n, dn, rfl, ⟨t1, t2, t3, h1, h2, h3⟩, ⟨a0, a1, c0, c1, d0, d1, x0, x1, z0, z1, u0, u1, S0, S1, hSd⟩, n0, n8, k⟩ := h
    refine ⟨_, PSs.nox (pss_cons (ps_set (i := 2) sc_law_counters.nd rfl (Or.inl rfl) (pe_op op_fdivN (pe_op op_add (pe_op op_mul (pe_ix ix_tup (pe_ix ix_tup (pv 0) pe_int (fun _ _ => rfl)) pe_int (fun _ _ => rfl)) (pv 1)) (pe_ix ix_tup (pe_ix ix_tup (pv 0) pe_int (fun _ _ => rfl)) pe_int (fun _ _ => rfl))) (pe_ix ix_tup (pe_ix ix_tup (pv 0) pe_int (fun _ _ => rfl)) pe_int (fun _ _ => rfl))))
      (pss_cons (ps_set (i := 3) sc_law_counters.nd rfl (Or.inl rfl) (pe_op op_fdivN (pe_op op_add (pe_op op_mul (pe_ix ix_tup (pe_ix ix_tup (pv 0) pe_int (fun _ _ => rfl)) pe_int (fun _ _ => rfl)) (pv 1)) (pe_ix ix_tup (pe_ix ix_tup (pv 0) pe_int (fun _ _ => rfl)) pe_int (fun _ _ => rfl))) (pe_ix ix_tup (pe_ix ix_tup (pv 0) pe_int (fun _ _ => rfl)) pe_int (fun _ _ => rfl))))
      (pss_cons (ps_setLc (i := 4) (own := [("_law_counter", 5)]) (g := gName 5) rfl sc_law_counters.nd rfl rfl (sw_true rfl rfl rfl (by decide +kernel)) (pi_range3 (by rfl) T.range (pa_cons (pv 2) (pa_cons (pv 3) (pa_cons (pe_ix ix_tup (pv 0) pe_int (fun _ _ => rfl)) pa_nil)))) (blkOk_by (N := ["_law_row", "_law_n", "_law_low", "_law_high", "_law_found", "_law_counter"]) (sc := defScope s_law_counters) (by decide +kernel)) (fun _ _ _ _ _ => (pg_name (i := 5) sc_law_counters.nd rfl (.inl rfl))) (fun _ _ _ _ _ => (pts_one (pt_cmpR op_ge (pv 5) pe_int (nomark _)))) (fun _ _ _ _ _ => (pv 5)))
      (pss_one (ps_ret (pe_ifExp (pt_val (pe_ix ix_tup (pv 0) pe_int (fun _ _ => rfl))) (pe_revL (pv 4)) (pv 4))))))), ?_⟩
    have b1 := pv_bd (a := a) (c := c) (d := d) a0 (by omega) (by omega) (by omega) d0 n0 n8
    have b2 := pv_bd (a := x) (c := z) (d := u) x0 x1 (by omega) (by omega) u0 n0 n8
    refine ⟨_, rfl, r, _, _, _, rfl, rfl, SqT.of h1, at0, t1, _, _, _, rfl, rfl, sqt3 h2, at0, _, rfl, _, _, rfl, rfl, .inl ⟨by omega, by omega⟩, ?_⟩
    refine ⟨_, rfl, r, _, _, _, rfl, rfl, SqT.of h1, at0, t1, _, _, _, rfl, rfl, sqt3 h2, at1, _, _, rfl, rfl, ?_⟩
    refine ⟨_, rfl, r, _, _, _, rfl, rfl, SqT.of h1, at0, t1, _, _, _, rfl, rfl, sqt3 h2, at2, _, _, rfl, rfl, ⟨by omega, by omega⟩, ?_⟩
    refine ⟨_, rfl, r, _, _, _, rfl, rfl, SqT.of h1, at1, t2, _, _, _, rfl, rfl, sqt3 h3, at0, _, rfl, _, _, rfl, rfl, .inl ⟨by omega, by omega⟩, ?_⟩
    refine ⟨_, rfl, r, _, _, _, rfl, rfl, SqT.of h1, at1, t2, _, _, _, rfl, rfl, sqt3 h3, at1, _, _, rfl, rfl, ?_⟩
    refine ⟨_, rfl, r, _, _, _, rfl, rfl, SqT.of h1, at1, t2, _, _, _, rfl, rfl, sqt3 h3, at2, _, _, rfl, rfl, ⟨by omega, by omega⟩, ?_⟩
    refine ⟨_, rfl, _, rfl, _, rfl, r, _, _, _, rfl, rfl, SqT.of h1, at2, pv_ a c d n, pv_ x z u n, S, _, rfl, rgc_pos S0 (by omega) (by omega) (by omega) (by omega) (by omega), fun D hD => ?_⟩
    refine lc_rangeC (lo := pv_ a c d n) (c := S) (fun i Hc => Hc D = some (.lst ((walk (pv_ a c d n) S i).map V.int)) ∧ ∀ b o, H b = some o → Hc b = some o) ⟨upd_same, Same.new _ (Same.refl H) hD⟩ ?_ ?_
    · rintro i Hc hi ⟨hc1, hc2⟩
      refine ⟨rfl, ?_⟩
      have hbound : (walk (pv_ a c d n) S i).length < sizeLine := by
        have l1 : (walk (pv_ a c d n) S i).length ≤ i := by
          unfold walk
          refine Nat.le_trans (List.length_filter_le _ _) ?_
          rw [List.length_map, List.length_range]
          exact Nat.le_refl _
        have l2 : rn_ (pv_ a c d n) (pv_ x z u n) S ≤ 200 := by
          rw [rn_pos S0]
          split
          · have := Int.ediv_le_self S (show 0 ≤ pv_ x z u n - pv_ a c d n - 1 by omega)
            omega
          · omega
        have l3 : 1000 ≤ sizeLine := by show 1000 ≤ sizeLine; decide
        omega
      refine ⟨_, rfl, _, _, rfl, rfl, _, rfl, ite2 (fun h0 => ?_) (fun h0 => ?_)⟩
      · have h0' : 0 ≤ pv_ a c d n + (i : Int) * S := of_decide_eq_true h0
        refine ⟨_, rfl, _, hc1, by rw [List.length_map]; exact hbound, ?_, fun b o e => ?_⟩
        · rw [walk_succ, if_pos h0', List.map_append, upd_same]
          rfl
        · rw [upd_ne (ne_of_none e hD)]
          exact hc2 b o e
      · have h0' : ¬ 0 ≤ pv_ a c d n + (i : Int) * S := fun y => h0 (decide_eq_true y)
        refine ⟨?_, hc2⟩
        rw [walk_succ, if_neg h0']
        exact hc1
    · rintro Hc ⟨hc1, hc2⟩
      rw [walk_due S0] at hc1
      have sm : Same H Hc := hc2
      have h1' := sm _ _ h1
      refine ⟨_, rfl, r, _, _, _, rfl, rfl, SqT.of h1', at3, ?_⟩
      cases dn
      · refine ⟨_, rfl, iteF ⟨_, rfl, k D Hc sm ?_⟩⟩
        rw [hc1, due_up]
        rfl
      · refine ⟨_, rfl, iteT ⟨_, rfl, D, _, rfl, SqL.of hc1, fun p hp => k p _ (Same.new _ sm hp) ?_⟩⟩
        rw [upd_same, ← List.map_reverse, due_dn]
        rfl
end
end K22

set_option maxHeartbeats 4000000
namespace K22
open PySem PySem.Spec PyProof.Rows L2 Z
theorem if_w2 {b : Bool} {A : Prop} {j : Int} {σ : L2.St} {H : Hp} {Q : VK} (W : Int → Hp → Prop) (h1 : b = true → (∀ v H', W v H' → Q (.int v) H') → A) (h2 : b = false → W j H) (h3 : ∀ v H', W v H' → Q (.int v) H') : if b = true then A else tC (.int j) σ H Q := by
  cases b
  · exact h3 _ _ (h2 rfl)
  · exact h1 rfl h3
def spRefusedT (K : PySem.W.Frag) : Sp := fun vs H Q _ => ∃ (p : Addr) (a c d x z u S n k : Int) (dn : Bool), vs = [.ref p, .int n, .int k] ∧ LpAt K H p a c d x z u S dn ∧ RgOk a c d ∧ RgOk x z u ∧ 1 ≤ S ∧ S ≤ 16 ∧ ¬ (0 ≤ k ∧ k ≤ mn_ a c d x z u S n - 1) ∧ ∀ H', Same H H' → Q (.bl true) H'
theorem look_n {w0 : Str} {n : Int} : (bnF w0 (.int n)).lookup ("number" : Str) = some (.int n) := by
  unfold bnF
  exact look_hd
theorem wn_ : ¬ (("what" : Str) = "number") := by decide +kernel
theorem look_w {v : V} {w : Str} : (bnF w v).lookup ("what" : Str) = some (.str w) := by
  unfold bnF
  rw [look_tl wn_]
  exact look_hd
theorem sz2 : 2 ≤ sizeLine := by show 2 ≤ sizeLine; decide
theorem turn_ok : PyData.strOk ("turn" : Str) = true := by decide +kernel
theorem two_shaped {x : Str} (e : PyData.strOk x = true) (n : Int) : SeqAt.shaped (.tuple [.str x, .int n]) = true := by simp [SeqAt.shaped, PyData.canLay0, PyData.canLayAll0, PyData.depth, PyData.depthAll, e]
theorem dp2 {K : PySem.W.Frag} {H : Hp} {t : Addr} {x : Str} {n : Int} (h : H t = some (.tup [.str x, .int n])) : Dp K H (.ref t) (.tuple [.str x, .int n]) := .tup (SqT.of h) (.cons (.str _) (.cons (.int _) .nil))
theorem no_co (lo hi st : Addr) (S : Int) (dn : Bool) : (lpf lo hi st S dn).lookup ("counter_of" : Str) = none := lp_no _ _ _ _ _ (by decide +kernel) (by decide +kernel) (by decide +kernel) (by decide +kernel) (by decide +kernel)
/-- counter_of as a method that may raise -/
def COx (P : Program) (w : World) (K : PySem.W.Frag) (mg : Str → Option Value) (base : Heap) : Prop := ∃ fd, FnOk P w K mg base (L2.CX P w) 4 (He.ma K (CL K) "counter_of") fd ["self", "n", "turn"] (spCO K) ∧ Binds K fd ["self", "n", "turn"] [] ∧ Meth K (CL K) "counter_of" (He.ma K (CL K) "counter_of")
section
variable {P : Program} {w : World} {K : PySem.W.Frag} {mg : Str → Option Value} {base : Heap}
theorem sc_law_range_row : FnScope ["_law_pen_here", "_law_apart", "_law_low", "_law_high"] ["_law_pen_here"] (defScope s_law_range_row) := ⟨rfl, rfl, rfl, by decide +kernel, rfl, by decide +kernel, by decide +kernel⟩
theorem ok_row {f : Addr} {fd : FuncData} (F : FnP K "_law_range_row" s_law_range_row f fd) (T : LwTx K mg) (dDraw : Dn P w K mg base 1 "_law_draw" ["_law_pen_here", "_law_many"] spDraw) : FnOk P w K mg base CX0 2 f fd ["_law_pen_here"] spRow := by
  refine F.ok sc_law_range_row (fun vs H Q E h => ?_) (fun cdv A outer s H vs Q E hr h => ?_)
  · obtain ⟨p, t, rfl, _⟩ := h
    rfl
  · obtain ⟨p, t, rfl, ht, hP, k⟩ := h
    refine ⟨_, PSs.nox (pss_cons (ps_set (i := 1) sc_law_range_row.nd rfl (Or.inl rfl) (pe_ix ix_list (pe_lst (pa_cons pe_int (pa_cons pe_int (pa_cons pe_int (pa_cons pe_int (pa_cons pe_int (pa_cons pe_int (pa_cons pe_int pa_nil)))))))) (pe_dn dDraw hr (pa_cons (pv 0) (pa_cons pe_int pa_nil))) (fun _ _ => rfl)))
      (pss_cons (ps_set (i := 2) sc_law_range_row.nd rfl (Or.inl rfl) (pe_tup (pa_cons (pe_dn dDraw hr (pa_cons (pv 0) (pa_cons pe_int pa_nil))) (pa_cons (pe_op op_sub (pe_dn dDraw hr (pa_cons (pv 0) (pa_cons pe_int pa_nil))) pe_int) (pa_cons (pe_ifExp (pt_cmpR op_eq (pv 1) pe_int (nomark _)) (pe_op op_add pe_int (pe_dn dDraw hr (pa_cons (pv 0) (pa_cons pe_int pa_nil)))) pe_int) pa_nil)))))
      (pss_cons (ps_set (i := 3) sc_law_range_row.nd rfl (Or.inl rfl) (pe_tup (pa_cons (pe_dn dDraw hr (pa_cons (pv 0) (pa_cons pe_int pa_nil))) (pa_cons (pe_op op_sub (pe_dn dDraw hr (pa_cons (pv 0) (pa_cons pe_int pa_nil))) pe_int) (pa_cons (pe_op op_add pe_int (pe_dn dDraw hr (pa_cons (pv 0) (pa_cons pe_int pa_nil)))) pa_nil)))))
      (pss_one (ps_ret (pe_tup (pa_cons (pv 2) (pa_cons (pv 3) (pa_cons (pv 1) (pa_cons (pe_cmpR op_eq (pe_dn dDraw hr (pa_cons (pv 0) (pa_cons pe_int pa_nil))) pe_int (nomark _)) (pa_cons (pe_tup pa_nil) pa_nil))))))))))), ?_⟩
    refine ⟨sz7, fun l hl => ?_⟩
    have hP0 := hP.same (Same.new (.lst [.int 1, .int 1, .int 2, .int 3, .int 4, .int 5, .int 16]) (Same.refl _) hl)
    have hL : (upd H l (.lst [.int 1, .int 1, .int 2, .int 3, .int 4, .int 5, .int 16])) l = some (.lst [.int 1, .int 1, .int 2, .int 3, .int 4, .int 5, .int 16]) := upd_same
    refine ⟨_, rfl, p, 7, t, rfl, by decide, by decide, by omega, hP0, fun H1 e e0 e1 hP1 k1 => ?_⟩
    have hL1 := k1 _ _ (hP0.ne hL fun _ z => by cases z) hL
    obtain ⟨q, rfl⟩ : ∃ q : Nat, e = (q : Int) := ⟨e.toNat, by omega⟩
    have hv : ∃ v : Int, ([.int 1, .int 1, .int 2, .int 3, .int 4, .int 5, .int 16] : List V)[q]? = some (.int v) ∧ 1 ≤ v ∧ v ≤ 16 := by
      have hq7 : q < 7 := by omega
      match q, hq7 with
      | 0, _ => exact ⟨_, rfl, by omega⟩
      | 1, _ => exact ⟨_, rfl, by omega⟩
      | 2, _ => exact ⟨_, rfl, by omega⟩
      | 3, _ => exact ⟨_, rfl, by omega⟩
      | 4, _ => exact ⟨_, rfl, by omega⟩
      | 5, _ => exact ⟨_, rfl, by omega⟩
      | 6, _ => exact ⟨_, rfl, by omega⟩
    obtain ⟨S, hS, S0, S1⟩ := hv
    have kA : Keep p H H1 := (Keep.of (Same.new _ (Same.refl _) hl)).trans k1
    refine ⟨l, _, _, _, rfl, rfl, SqL.of hL1, atI_nat hS, ?_⟩
    refine ⟨_, rfl, p, 2, t + 1, rfl, by decide, by decide, by omega, hP1, fun H2 a a0 a1 hP2 k2 => ?_⟩
    refine ⟨_, rfl, p, 14, t + 2, rfl, by decide, by decide, by omega, hP2, fun H3 c c0 c1 hP3 k3 => ⟨_, _, rfl, rfl, ?_⟩⟩
    have kB := kA.trans (k2.trans k3)
    refine ⟨_, rfl, rfl, _, rfl, ?_⟩
    refine if_w2 (fun d H' => 1 ≤ d ∧ d ≤ 3 ∧ (S = 1 ∨ d = 1) ∧ Pen H' p (t + 4) ∧ Keep p H H') (fun hb key => ?_) (fun _ => ⟨by decide, by decide, .inr rfl, hP3.mono (by omega), kB⟩) (fun d H4 hd => ?_)
    · refine ⟨_, rfl, p, 3, t + 3, rfl, by decide, by decide, by omega, hP3, fun H4 d d0 d1 hP4 k4 => ⟨_, _, rfl, rfl, ?_⟩⟩
      exact key _ _ ⟨by omega, by omega, .inl (V.int.inj (of_decide_eq_true hb)), hP4.mono (by omega), kB.trans k4⟩
    obtain ⟨d0, d1, hSd, hP4, k4⟩ := hd
    refine ⟨sz3, fun tl htl => ?_⟩
    have s5 : Same H4 (upd H4 tl (tup3 a (c - 8) d)) := Same.new _ (Same.refl _) htl
    have ht1 : (upd H4 tl (tup3 a (c - 8) d)) tl = some (tup3 a (c - 8) d) := upd_same
    refine ⟨_, rfl, p, 4, t + 4, rfl, by decide, by decide, by omega, hP4.same s5, fun H5 x x0 x1 hP5 k5 => ?_⟩
    refine ⟨_, rfl, p, 24, t + 5, rfl, by decide, by decide, by omega, hP5, fun H6 z z0 z1 hP6 k6 => ⟨_, _, rfl, rfl, ?_⟩⟩
    refine ⟨_, rfl, p, 3, t + 6, rfl, by decide, by decide, by omega, hP6, fun H7 u u0 u1 hP7 k7 => ⟨_, _, rfl, rfl, sz3, fun th hth => ?_⟩⟩
    have nt : tl ≠ p := (hP4.same s5).ne ht1 fun _ z => by cases z
    have ht7 := k7 _ _ nt (k6 _ _ nt (k5 _ _ nt ht1))
    have s8 : Same H7 (upd H7 th (tup3 x (z - 6) (1 + u))) := Same.new _ (Same.refl _) hth
    have ht8 := s8 _ _ ht7
    have hh8 : (upd H7 th (tup3 x (z - 6) (1 + u))) th = some (tup3 x (z - 6) (1 + u)) := upd_same
    refine ⟨_, rfl, _, rfl, _, rfl, ?_⟩
    refine ⟨_, rfl, p, 2, t + 7, rfl, by decide, by decide, by omega, hP7.same s8, fun H9 b b0 b1 hP9 k9 => ?_⟩
    have nh : th ≠ p := (hP7.same s8).ne hh8 fun _ z => by cases z
    have ht9 := k9 _ _ nt ht8
    have hh9 := k9 _ _ nh hh8
    refine ⟨rfl, sz0, fun t0 ht0 => ⟨sz5, fun tr htr => ?_⟩⟩
    have s10 := Same.new (.tup [.ref tl, .ref th, .int S, .bl (decide (V.int b = V.int 1)), .ref t0]) (Same.new (.tup []) (Same.refl H9) ht0) htr
    refine k _ tr a (c - 8) d x (z - 6) (1 + u) S (decide (V.int b = V.int 1)) ⟨tl, th, t0, upd_same, s10 _ _ ht9, s10 _ _ hh9⟩ ?_ ((hP9.same s10).mono (by omega)) (k4.trans ((Keep.of s5).trans (k5.trans (k6.trans (k7.trans ((Keep.of s8).trans (k9.trans (Keep.of s10))))))))
    unfold RwOk
    omega
theorem sc_law_refused_turn : FnScope ["_law_loop", "_law_n", "_law_turn", "_law_told", "e"] ["_law_loop", "_law_n", "_law_turn"] (defScope s_law_refused_turn) := ⟨rfl, rfl, rfl, by decide +kernel, rfl, by decide +kernel, by decide +kernel⟩
theorem ok_refusedT {f : Addr} {fd : FuncData} (F : FnP K "_law_refused_turn" s_law_refused_turn f fd) (T : LwTx K mg) (C : COx P w K mg base) (EB : EC K mg "BadNumber" ["what", "number"]) (ex : PySem.W.exmOne K (.ref (CB K)) (.ref (CB K)) = some true) :
    FnOk P w K mg base CX0 6 f fd ["_law_loop", "_law_n", "_law_turn"] (spRefusedT K) := by
  refine F.ok sc_law_refused_turn (fun vs H Q E h => ?_) (fun cdv A outer s H vs Q E hr h => ?_)
  · obtain ⟨p, a, c, d, x, z, u, S, n, k, dn, rfl, _⟩ := h
    rfl
  · obtain ⟨p, a, c, d, x, z, u, S, n, k, dn, rfl, hL, r1, r2, S1, S2, hk, kk⟩ := h
    obtain ⟨fdo, Fo, hbo, co⟩ := C
    refine ⟨_, PSs.nox (pss_cons (ps_set (i := 3) sc_law_refused_turn.nd rfl (Or.inl rfl) pe_non)
      (pss_cons (ps_try_as (i := 4) rfl rfl sc_law_refused_turn.nd rfl rfl ⟨rfl, by decide, .inl EB.gC⟩ takes0 (fun W pn xe tk _ => (pss_one (ps_expr (pe_methT (K := K) tk rfl (pv 0) T.clL co Fo (hr.mono (by decide)) hbo (pa_cons (pv 1) (pa_cons (pv 2) pa_nil)))))) (fun a oe cls d pn hz hf => (pss_one (ps_set (i := 3) sc_law_refused_turn.nd rfl (Or.inl rfl) (pe_tup (pa_cons (pe_xf EB.ex.xf (EB.na _ (by simp)) hz hf (pv 4)) (pa_cons (pe_xf EB.ex.xf (EB.na _ (by simp)) hz hf (pv 4)) pa_nil)))))))
      (pss_one (ps_ret (pe_cmpR (op_eqD hr.units) (pv 3) (pe_tup (pa_cons pe_str (pa_cons (pv 2) pa_nil))) (nomark _)))))), ?_⟩
    obtain ⟨dx, lo, hi, st, hp, _⟩ := id hL
    refine ⟨_, rfl, p, dx, _, rfl, hp, no_co _ _ _ _ _, _, rfl, _, rfl, p, a, c, d, x, z, u, S, n, k, dn, rfl, hL, r1, r2, S1, S2, fun _ e H2 s2 he => ?_, fun z1 z2 => absurd ⟨z1, z2⟩ hk⟩
    refine ⟨true, ex, fun _ a ha => ?_, fun q => Bool.noConfusion q⟩
    refine ⟨_, rfl, rfl, rfl, e, _, _, rfl, he, look_w, _, rfl, rfl, rfl, e, _, _, rfl, he, look_n, sz2, fun t ht => ?_⟩
    refine ⟨_, rfl, _, rfl, sz2, fun t6 h6 => ?_⟩
    refine ⟨_, _, dp2 (at_upd _ upd_same h6), dp2 upd_same, two_shaped turn_ok _, two_shaped turn_ok _, ?_⟩
    rw [SeqAt.eqv_refl _ (SeqAt.canLay_of_shaped (two_shaped turn_ok _))]
    exact kk _ (Same.new _ (Same.new _ s2 ht) h6)
end
end K22

set_option maxHeartbeats 4000000
namespace K22
open PySem PySem.Spec PyProof.Rows L2 Z
def spCO0 (K : PySem.W.Frag) : Sp := fun vs H Q _ => ∃ (p : Addr) (a c d x z u S n k : Int) (dn : Bool), vs = [.ref p, .int n, .int k] ∧ LpAt K H p a c d x z u S dn ∧ RgOk a c d ∧ RgOk x z u ∧ 1 ≤ S ∧ S ≤ 16 ∧
  0 ≤ k ∧ k ≤ mn_ a c d x z u S n - 1 ∧ Q (.int (lc_ (pv_ a c d n) S + (if dn = true then mn_ a c d x z u S n - 1 - k else k) * S)) H
theorem no_mt (lo hi st : Addr) (S : Int) (dn : Bool) : (lpf lo hi st S dn).lookup ("many_turns" : Str) = none := lp_no _ _ _ _ _ (by decide +kernel) (by decide +kernel) (by decide +kernel) (by decide +kernel) (by decide +kernel)
theorem no_to (lo hi st : Addr) (S : Int) (dn : Bool) : (lpf lo hi st S dn).lookup ("turn_of" : Str) = none := lp_no _ _ _ _ _ (by decide +kernel) (by decide +kernel) (by decide +kernel) (by decide +kernel) (by decide +kernel)
/-- the methods of a loop, where none raises -/
structure LM (P : Program) (w : World) (K : PySem.W.Frag) (mg : Str → Option Value) (base : Heap) : Prop where
  lc : LM1 P w K mg base
  mt : ∃ fd, FnOk P w K mg base CX0 4 (He.ma K (CL K) "many_turns") fd ["self", "n"] (spMT K) ∧ Binds K fd ["self", "n"] [] ∧ Meth K (CL K) "many_turns" (He.ma K (CL K) "many_turns")
  co : ∃ fd, FnOk P w K mg base CX0 4 (He.ma K (CL K) "counter_of") fd ["self", "n", "turn"] (spCO0 K) ∧ Binds K fd ["self", "n", "turn"] [] ∧ Meth K (CL K) "counter_of" (He.ma K (CL K) "counter_of")
  to : ∃ fd, FnOk P w K mg base CX0 4 (He.ma K (CL K) "turn_of") fd ["self", "n", "counter"] (spTO K) ∧ Binds K fd ["self", "n", "counter"] [] ∧ Meth K (CL K) "turn_of" (He.ma K (CL K) "turn_of")
theorem due_len (l S : Int) (m : Nat) (dn : Bool) : (due l S m dn).length = m := by
  unfold due
  rw [List.length_map, List.length_range]
theorem due_at {l S : Int} {m : Nat} {dn : Bool} {j : Nat} (h : j < m) : (due l S m dn)[j]? = some (l + (if dn = true then (m : Int) - 1 - (j : Int) else (j : Int)) * S) := by
  unfold due
  rw [List.getElem?_map, List.getElem?_range h]
  rfl
theorem due_take {l S : Int} {m : Nat} {dn : Bool} {j : Nat} (h : j < m) : (due l S m dn).take (j + 1) = (due l S m dn).take j ++ [l + (if dn = true then (m : Int) - 1 - (j : Int) else (j : Int)) * S] := by
  have q := due_at (l := l) (S := S) (dn := dn) h
  rw [List.take_succ, q]
  rfl
/-- which numbers are in, and at which place -/
theorem due_mem {l S : Int} {m : Nat} {dn : Bool} {cn : Int} (hS : 1 ≤ S) : cn ∈ due l S m dn ↔ (cn - l) % S = 0 ∧ 0 ≤ (cn - l) / S ∧ (cn - l) / S < (m : Int) := by
  unfold due
  rw [List.mem_map]
  constructor
  · rintro ⟨j, hj, rfl⟩
    have hj := List.mem_range.mp hj
    have e : ∀ y : Int, (l + y * S - l) % S = 0 ∧ (l + y * S - l) / S = y := fun y => by
      have e1 : l + y * S - l = y * S := by omega
      rw [e1]
      exact ⟨Int.mul_emod_left y S, Int.mul_ediv_cancel y (by omega)⟩
    rw [(e _).1, (e _).2]
    cases dn <;> simp <;> omega
  · rintro ⟨h1, h2, h3⟩
    have e := Int.emod_add_mul_ediv (cn - l) S
    rw [h1, Int.zero_add] at e
    cases dn
    · refine ⟨((cn - l) / S).toNat, List.mem_range.mpr (by omega), ?_⟩
      have e2 : ((((cn - l) / S).toNat : Nat) : Int) = (cn - l) / S := by omega
      show l + ((((cn - l) / S).toNat : Nat) : Int) * S = cn
      rw [e2, Int.mul_comm]
      omega
    · refine ⟨((m : Int) - 1 - (cn - l) / S).toNat, List.mem_range.mpr (by omega), ?_⟩
      have e2 : (m : Int) - 1 - ((((m : Int) - 1 - (cn - l) / S).toNat : Nat) : Int) = (cn - l) / S := by omega
      show l + ((m : Int) - 1 - ((((m : Int) - 1 - (cn - l) / S).toNat : Nat) : Int)) * S = cn
      rw [e2, Int.mul_comm]
      omega
theorem due_inj {l S : Int} {m : Nat} {dn : Bool} {i j : Nat} (hS : 1 ≤ S) (hi : i < m) (hj : j < m) (e : l + (if dn = true then (m : Int) - 1 - (i : Int) else (i : Int)) * S = l + (if dn = true then (m : Int) - 1 - (j : Int) else (j : Int)) * S) : i = j := by
  have e1 : (if dn = true then (m : Int) - 1 - (i : Int) else (i : Int)) * S = (if dn = true then (m : Int) - 1 - (j : Int) else (j : Int)) * S := by omega
  have e2 := Int.eq_of_mul_eq_mul_right (show S ≠ 0 by omega) e1
  cases dn <;> simp at e2 <;> omega
section
variable {P : Program} {w : World} {K : PySem.W.Frag} {mg : Str → Option Value} {base : Heap}
theorem ok_CO0 {fd : FuncData} (F : FnM K "Loop" "counter_of" "Loop.counter_of" iLoopcounter_of fd) (T : LpTx K mg) (L : LM1 P w K mg base) (dTurns : Dn P w K mg base 3 "turns_from" ["loop", "least", "n"] (spTurns K))
    (dIsIntFrom : Dn P w K mg base 2 "is_integer_from" ["value", "low", "high"] spIntFrom) : FnOk P w K mg base CX0 4 (He.ma K (CL K) "counter_of") fd ["self", "n", "turn"] (spCO0 K) := by
  refine F.ok scLoopcounter_of (fun vs H Q E h => ?_) (fun cdv A outer s H vs Q E hr h => ?_)
  · obtain ⟨p, a, c, d, x, z, u, S, n, k, dn, rfl, _⟩ := h
    rfl
  · obtain ⟨p, a, c, d, x, z, u, S, n, k, dn, rfl, hL, r1, r2, S1, S2, q0, q1, k3⟩ := h
    obtain ⟨fdl, Fl, hbl, cl⟩ := L
    refine ⟨_, PSs.nox (pss_cons (ps_set (i := 3) scLoopcounter_of.nd rfl (Or.inl rfl) (pe_meth (pv 0) T.clL cl Fl (hr.mono (by decide)) hbl .nil pass0 (pa_cons (pv 1) pa_nil)))
      (pss_cons (ps_set (i := 4) scLoopcounter_of.nd rfl (Or.inl rfl) (pe_dn dTurns hr (pa_cons (pv 0) (pa_cons (pv 3) (pa_cons (pv 1) pa_nil)))))
      (pss_cons (ps_if (pt_not (pt_val (pe_dn dIsIntFrom hr (pa_cons (pv 2) (pa_cons pe_int (pa_cons (pe_op op_sub (pv 4) pe_int) pa_nil)))))) (pss_one ps_never) pss_nil)
      (pss_cons (ps_set (i := 5) scLoopcounter_of.nd rfl (Or.inl rfl) (pe_ifExp (pt_val (pe_fld (pv 0) rfl)) (pe_op op_sub (pe_op op_sub (pv 4) pe_int) (pv 2)) (pv 2)))
      (pss_one (ps_ret (pe_op op_add (pv 3) (pe_op op_mul (pv 5) (pe_fld (pv 0) rfl))))))))), ?_⟩
    obtain ⟨dx, lo, hi, st, hp, _⟩ := id hL
    refine ⟨_, rfl, p, dx, _, rfl, hp, no_lc _ _ _ _ _, _, rfl, p, a, c, d, x, z, u, S, n, dn, rfl, hL, r1, S1, S2, ?_⟩
    refine ⟨_, rfl, _, rfl, _, rfl, p, a, c, d, x, z, u, S, _, n, dn, rfl, hL, r2, S1, S2, ?_⟩
    refine ⟨_, rfl, _, rfl, _, _, rfl, rfl, k, 0, _, rfl, ?_⟩
    unfold mn_ at q1 k3
    rw [decide_eq_true ⟨q0, q1⟩]
    refine ⟨_, rfl, iteF ?_⟩
    refine ⟨_, rfl, p, _, dx, _, _, rfl, hp, T.clL, T.nDn, lp_dn _ _ _ _ _, ?_⟩
    cases dn
    · exact ⟨_, rfl, iteF ⟨_, rfl, _, rfl, _, rfl, _, rfl, p, _, dx, _, _, rfl, hp, T.clL, T.nSp, lp_st _ _ _ _ _, _, _, rfl, rfl, .inr ⟨by omega, by omega⟩, _, _, rfl, rfl, k3⟩⟩
    · exact ⟨_, rfl, iteT ⟨_, rfl, _, _, rfl, rfl, _, rfl, _, _, rfl, rfl, _, rfl, _, rfl, _, rfl, p, _, dx, _, _, rfl, hp, T.clL, T.nSp, lp_st _ _ _ _ _, _, _, rfl, rfl, .inr ⟨by omega, by omega⟩, _, _, rfl, rfl, k3⟩⟩
end
end K22

set_option maxHeartbeats 4000000
namespace K22
open PySem PySem.Spec PyProof.Rows L2 Z
theorem eq_self {d : PyData} (h : SeqAt.shaped d = true) : (!PyData.eqv d d) = false := by
  rw [SeqAt.eqv_refl d (SeqAt.canLay_of_shaped h)]
  rfl
theorem yes_of {σ : L2.St} {H : Hp} {A B : Hp → Prop} (h : A H) : tYes σ H (fun b H3 => if b = true then A H3 else B H3) := by
  show if true = true then A H else B H
  rw [if_pos rfl]
  exact h
theorem sz1 : 1 ≤ sizeLine := by show 1 ≤ sizeLine; decide
theorem sz4 : 4 ≤ sizeLine := by show 4 ≤ sizeLine; decide
theorem inv_ints (cn : Int) (ns : List Int) : inV (.int cn) (ns.map V.int) = decide (cn ∈ ns) := by
  unfold inV
  induction ns with
  | nil => simp
  | cons n ns ih =>
    rw [List.map_cons, List.any_cons, ih]
    by_cases h : n = cn
    · subst h
      simp [eqV]
    · have h2 : ¬ cn = n := fun z => h z.symm
      simp [eqV, h, h2]
theorem all_flat (ns : List Int) : (ns.map V.int).all flatV = true := by
  induction ns with
  | nil => rfl
  | cons n ns ih => simp [flatV] at ih ⊢
theorem mn_nn {a c d x z u S n : Int} (hS : 1 ≤ S) : 0 ≤ mn_ a c d x z u S n := by
  unfold mn_ mt_
  rw [turns_eq hS]
  exact rn_nn hS
theorem normG {i : Nat} {v : V} {σ σ' : L2.St} {H : Hp} {N : L2.St → Hp → Prop} (e : σ.set i (some v) = σ') (h : N σ' H) : gName i v σ H N := by
  subst e
  exact h
def spSmall (K : PySem.W.Frag) : Sp := fun vs H Q _ => ∃ (p r : Addr) (a' c' d' x' z' u' a c d x z u S n : Int) (dn : Bool), vs = [.ref p, .ref r, .int n] ∧ LpAt K H p a' c' d' x' z' u' S dn ∧ RgOk a' c' d' ∧ RgOk x' z' u' ∧ (∀ n, pv_ a' c' d' n = pv_ a c d n) ∧ (∀ n, pv_ x' z' u' n = pv_ x z u n) ∧
  RowAt H r a c d x z u S dn ∧ RwOk a c d x z u S ∧ 0 ≤ n ∧ n ≤ 8 ∧ ∀ H', Same H H' → Q (.bl true) H'
section
variable {P : Program} {w : World} {K : PySem.W.Frag} {mg : Str → Option Value} {base : Heap}
theorem sc_law_small_right : FnScope ["_law_loop", "_law_row", "_law_n", "_law_due", "_law_k", "_law_counter", "_law_told"] ["_law_loop", "_law_row", "_law_n"] (defScope s_law_small_right) := ⟨rfl, rfl, rfl, by decide +kernel, rfl, by decide +kernel, by decide +kernel⟩
theorem ok_small {f : Addr} {fd : FuncData} (F : FnP K "_law_small_right" s_law_small_right f fd) (T : LwTx K mg) (L : LM P w K mg base) (dCounters : Dn P w K mg base 1 "_law_counters" ["_law_row", "_law_n"] (spCounters K)) (dInteger : Dn P w K mg base 1 "_law_integer" ["_law_value"] spInteger)
    (dRefused : Dn P w K mg base 6 "_law_refused_turn" ["_law_loop", "_law_n", "_law_turn"] (spRefusedT K)) : FnOk P w K mg base CX0 7 f fd ["_law_loop", "_law_row", "_law_n"] (spSmall K) := by
  refine F.ok sc_law_small_right (fun vs H Q E h => ?_) (fun cdv A outer s H vs Q E hr h => ?_)
  · obtain ⟨p, r, a', c', d', x', z', u', a, c, d, x, z, u, S, n, dn, rfl, _⟩ := h
    rfl
  · obtain ⟨p, r, a', c', d', x', z', u', a, c, d, x, z, u, S, n, dn, rfl, hL, r1, r2, q1, q2, hR, hRw, n0, n8, k⟩ := h
    obtain ⟨fdm, Fm, hbm, cm⟩ := L.mt
    obtain ⟨fdo, Fo, hbo, co⟩ := L.co
    obtain ⟨fdt, Ft, hbt, ct⟩ := L.to
    refine ⟨_, PSs.nox (pss_cons (ps_set (i := 3) sc_law_small_right.nd rfl (Or.inl rfl) (pe_dn dCounters hr (pa_cons (pv 1) (pa_cons (pv 2) pa_nil))))
      (pss_cons (ps_if (PW.pt (pw_or (pt_cmpR op_ne (pe_meth (pv 0) T.clL cm Fm (hr.mono (by decide)) hbm .nil pass0 (pa_cons (pv 2) pa_nil)) (pe_callB call_len_seq (by rfl) T.len PySem.boot_len (pa_cons (pv 3) pa_nil)) (nomark _)) (pw_or1 (pt_not (pt_val (pe_dn dInteger hr (pa_cons (pe_meth (pv 0) T.clL cm Fm (hr.mono (by decide)) hbm .nil pass0 (pa_cons (pv 2) pa_nil)) pa_nil))))))) (pss_one (ps_ret pe_bl)) pss_nil)
      (pss_cons (ps_if (pt_cmpR (op_neD hr.units) (pe_lc (own := [("_law_k", 4)]) (g := gName 4) (tt := tYes) rfl sc_law_small_right.nd (pi_range1 (by rfl) T.range (pa_cons (pe_callB call_len_seq (by rfl) T.len PySem.boot_len (pa_cons (pv 3) pa_nil)) pa_nil)) (blkOk_by (N := ["_law_loop", "_law_row", "_law_n", "_law_due", "_law_k", "_law_counter", "_law_told"]) (sc := defScope s_law_small_right) (by decide +kernel)) (fun _ _ _ _ _ => (pg_name (i := 4) sc_law_small_right.nd rfl (.inl rfl))) (fun _ _ _ _ _ => pts_nil) (fun _ _ _ _ _ => (pe_meth (pv 0) T.clL co Fo (hr.mono (by decide)) hbo .nil pass0 (pa_cons (pv 2) (pa_cons (pv 4) pa_nil))))) (pv 3) (nomark _)) (pss_one (ps_ret pe_bl)) pss_nil)
      (pss_cons (ps_for PassesOwn.never rfl (pi_range2 (by rfl) T.range (pa_cons (pe_un un_neg pe_int) (pa_cons (pe_op op_add (pe_callB (cr_max rfl) (by rfl) T.max (by decide +kernel) (pa_cons (pe_op op_cat (pv 3) (pe_lst (pa_cons pe_int pa_nil))) pa_nil)) pe_int) pa_nil))) (pg_name (i := 5) sc_law_small_right.nd rfl (.inl rfl)) (pss_cons (ps_set (i := 6) sc_law_small_right.nd rfl (Or.inl rfl) (pe_meth (pv 0) T.clL ct Ft (hr.mono (by decide)) hbt .nil pass0 (pa_cons (pv 2) (pa_cons (pv 5) pa_nil))))
      (pss_one (ps_if (pt_cmpR op_in_seq (pv 5) (pv 3) (by with_unfolding_all rfl)) (pss_one (ps_if (PW.pt (pw_or (pt_cmpR op_ne (pv 6) (pe_bm PySem.F.plainAttrs_list PySem.F.slot_list_index PySem.F.type_list_index mt_index (pv 3) (pa_cons (pv 5) pa_nil)) (nomark _)) (pw_or1 (pt_not (pt_val (pe_dn dInteger hr (pa_cons (pv 6) pa_nil))))))) (pss_one (ps_ret pe_bl)) pss_nil)) (pss_one (ps_if (pt_cmpR op_notN (pv 6) pe_non (nomark _)) (pss_one (ps_ret pe_bl)) pss_nil))))))
      (pss_one (ps_ret (pe_callB (cr_all rfl) (by rfl) T.all (by decide +kernel) (pa_cons (pe_lc (own := [("_law_k", 4)]) (g := gName 4) (tt := tYes) rfl sc_law_small_right.nd (pi_tup (pe_tup (pa_cons (pe_un un_neg pe_int) (pa_cons (pe_callB call_len_seq (by rfl) T.len PySem.boot_len (pa_cons (pv 3) pa_nil)) (pa_cons (pe_op op_add (pe_callB call_len_seq (by rfl) T.len PySem.boot_len (pa_cons (pv 3) pa_nil)) pe_int) (pa_cons (pe_op op_sub (pe_un un_neg (pe_callB call_len_seq (by rfl) T.len PySem.boot_len (pa_cons (pv 3) pa_nil))) pe_int) pa_nil)))))) (blkOk_by (N := ["_law_loop", "_law_row", "_law_n", "_law_due", "_law_k", "_law_counter", "_law_told"]) (sc := defScope s_law_small_right) (by decide +kernel)) (fun _ _ _ _ _ => (pg_name (i := 4) sc_law_small_right.nd rfl (.inl rfl))) (fun _ _ _ _ _ => pts_nil) (fun _ _ _ _ _ => (pe_dn dRefused hr (pa_cons (pv 0) (pa_cons (pv 2) (pa_cons (pv 4) pa_nil)))))) pa_nil)))))))), ?_⟩
    have S0 : 1 ≤ S := by unfold RwOk at hRw; omega
    have S1 : S ≤ 16 := by unfold RwOk at hRw; omega
    refine ⟨_, rfl, _, rfl, r, a, c, d, x, z, u, S, n, dn, rfl, hR, hRw, n0, n8, fun D H1 s1 hD => ?_⟩
    have eM : mn_ a' c' d' x' z' u' S n = mn_ a c d x z u S n := by
      unfold mn_
      rw [q1, q2]
    have nn := mn_nn (a := a) (c := c) (d := d) (x := x) (z := z) (u := u) (n := n) S0
    have hL1 := hL.same s1
    obtain ⟨dx, lo, hi, st, hp, _⟩ := id hL1
    refine ⟨_, rfl, p, dx, _, rfl, hp, no_mt _ _ _ _ _, _, rfl, p, a', c', d', x', z', u', S, n, dn, rfl, hL1, r1, r2, S0, S1, ?_⟩
    refine ⟨_, rfl, D, _, rfl, .inl (SqL.of hD), rfl, _, rfl, if_no (not_dec (congrArg V.int ?_)) ?_⟩
    · rw [eM, List.length_map, due_len]
      omega
    refine ⟨_, rfl, p, dx, _, rfl, hp, no_mt _ _ _ _ _, _, rfl, p, a', c', d', x', z', u', S, n, dn, rfl, hL1, r1, r2, S0, S1, ?_⟩
    refine ⟨_, rfl, _, rfl, if_no rfl ?_⟩
    obtain ⟨m, hm⟩ : ∃ m : Nat, (m : Int) = mn_ a c d x z u S n := ⟨(mn_ a c d x z u S n).toNat, by omega⟩
    have hm2 : (mn_ a c d x z u S n).toNat = m := by omega
    rw [hm2] at hD
    obtain ⟨l, hl⟩ : ∃ l, l = lc_ (pv_ a c d n) S := ⟨_, rfl⟩
    rw [← hl] at hD
    have eL : lc_ (pv_ a' c' d' n) S = l := by rw [q1, hl]
    have ml : m ≤ 200 := by
      unfold RwOk at hRw
      have b1 := pv_bd (a := a) (c := c) (d := d) (n := n) (by omega) (by omega) (by omega) (by omega) (by omega) n0 n8
      have b2 := pv_bd (a := x) (c := z) (d := u) (n := n) (by omega) (by omega) (by omega) (by omega) (by omega) n0 n8
      have e : mn_ a c d x z u S n = rn_ (lc_ (pv_ a c d n) S) (pv_ x z u n) S := by
        unfold mn_ mt_
        exact turns_eq S0
      have l0 : 0 ≤ lc_ (pv_ a c d n) S := by
        unfold lc_
        split
        · assumption
        · exact (fmod_range (show 0 < S by omega)).1
      rw [rn_pos S0] at e
      have : mn_ a c d x z u S n ≤ 60 := by
        rw [e]
        split
        · have := Int.ediv_le_self S (show 0 ≤ pv_ x z u n - lc_ (pv_ a c d n) S - 1 by omega)
          omega
        · decide
      omega
    refine ⟨_, rfl, D, _, rfl, .inl (SqL.of hD), ((m : Nat) : Int), ?_, by omega, by omega, ?_⟩
    · rw [List.length_map, due_len]
    rw [Int.toNat_natCast]
    intro E1 hE1
    refine lc_range (lo := 0) (n := m) (fun i Hc => Hc E1 = some (.lst (((due l S m dn).take i).map V.int)) ∧ ∀ b o, H1 b = some o → Hc b = some o) ⟨upd_same, Same.new _ (Same.refl H1) hE1⟩ ?_ ?_
    · rintro i Hc hi ⟨hc1, hc2⟩
      have sm : Same H1 Hc := hc2
      have hLc := hL1.same sm
      obtain ⟨dx, lo, hi', st, hp, _⟩ := id hLc
      refine ⟨rfl, yes_of ?_⟩
      refine ⟨_, rfl, p, dx, _, rfl, hp, no_co _ _ _ _ _, _, rfl, _, rfl, p, a', c', d', x', z', u', S, n, 0 + (i : Int), dn, rfl, hLc, r1, r2, S0, S1, by omega, by omega, ?_⟩
      refine ⟨_, hc1, ?_, ?_, fun b o e => ?_⟩
      · rw [List.length_map, List.length_take, due_len]
        have : 1000 ≤ sizeLine := by show 1000 ≤ sizeLine; decide
        omega
      · rw [due_take hi, List.map_append, upd_same, eL, eM, ← hm, Int.zero_add]
        rfl
      · rw [upd_ne (ne_of_none e hE1)]
        exact hc2 b o e
    rintro H2 ⟨hE2, k2⟩
    have s2 : Same H1 H2 := k2
    rw [List.take_of_length_le (by rw [due_len]; exact Nat.le_refl _)] at hE2
    have hD2 := s2 _ _ hD
    refine ⟨_, rfl, _, _, .lst (SqL.of hE2) (dpAll_ints _), .lst (SqL.of hD2) (dpAll_ints _), shaped_ints _, shaped_ints _, _, rfl, if_no (eq_self (shaped_ints _)) ?_⟩
    have hL2 := hL1.same s2
    -- every number from -20 on
    refine ⟨_, rfl, _, rfl, sz1, fun z1 hz1 => ?_⟩
    have hD3 := at_upd (.lst [.int 0]) hD2 hz1
    have hZ3 : (upd H2 z1 (.lst [.int 0])) z1 = some (.lst [.int 0]) := upd_same
    refine ⟨D, z1, _, _, rfl, rfl, hD3, hZ3, ?_, fun z2 hz2 => ?_⟩
    · rw [List.length_map, due_len]
      have : 1000 ≤ sizeLine := by show 1000 ≤ sizeLine; decide
      show m + 1 ≤ sizeLine
      omega
    have s4 : Same H2 (upd (upd H2 z1 (.lst [.int 0])) z2 (.lst ((due l S m dn).map V.int ++ [.int 0]))) := Same.new _ (Same.new _ (Same.refl _) hz1) hz2
    have hZ4 : (upd (upd H2 z1 (.lst [.int 0])) z2 (.lst ((due l S m dn).map V.int ++ [.int 0]))) z2 = some (.lst ((due l S m dn ++ [0]).map V.int)) := by
      rw [upd_same, List.map_append]
      rfl
    obtain ⟨H4, hH4⟩ : ∃ L, L = upd (upd H2 z1 (.lst [.int 0])) z2 (.lst ((due l S m dn).map V.int ++ [.int 0])) := ⟨_, rfl⟩
    rw [← hH4] at s4 hZ4
    refine ⟨z2, due l S m dn ++ [0], rfl, ?_, ?_, fun mx hmx hle => ?_⟩
    · rw [← hH4]
      exact SqL.of hZ4
    · rw [List.length_append]
      exact Nat.succ_pos _
    have mb : -5000 ≤ mx ∧ mx ≤ 5000 := by
      rcases List.mem_append.mp hmx with e | e
      · have l0 : 0 ≤ l ∧ l ≤ 50 := by
          have b1 := pv_bd (a := a) (c := c) (d := d) (n := n) (by unfold RwOk at hRw; omega) (by unfold RwOk at hRw; omega) (by unfold RwOk at hRw; omega) (by unfold RwOk at hRw; omega) (by unfold RwOk at hRw; omega) n0 n8
          rw [hl]
          unfold lc_
          split
          · omega
          · have := fmod_range (x := pv_ a c d n) (show 0 < S by omega)
            omega
        obtain ⟨h1, h2, h3⟩ := (due_mem S0).mp e
        have e4 := Int.emod_add_mul_ediv (mx - l) S
        rw [h1, Int.zero_add] at e4
        have e5 : S * ((mx - l) / S) ≤ 16 * 200 := Int.mul_le_mul S1 (by omega) h2 (by decide)
        have e6 : 0 ≤ S * ((mx - l) / S) := Int.mul_nonneg (by omega) h2
        omega
      · have e : mx = 0 := List.mem_singleton.mp e
        omega
    obtain ⟨w_, hw⟩ : ∃ w_ : Nat, (w_ : Int) = mx + 20 - (-20) := ⟨(mx + 40).toNat, by
      have : 0 ≤ mx := hle 0 (List.mem_append_right _ (List.mem_singleton.mpr rfl))
      omega⟩
    refine ⟨_, _, rfl, rfl, _, _, rfl, ⟨by omega, by omega, by omega, by omega⟩, ?_⟩
    rw [show (mx + 20 - -20).toNat = w_ by omega]
    have hD4 := s4 _ _ hD2
    have hL4 := hL2.same s4
    rw [← hH4]
    refine for_range (lo := -20) (n := w_) (fun i σ H' => ∃ v4 v5 v6 : Option V, σ = [some (.ref p), some (.ref r), some (.int n), some (.ref D), v4, v5, v6] ∧ Same H4 H') ⟨_, _, _, rfl, Same.refl _⟩ ?_ ?_
    · rintro i σ H5 hi ⟨v4, v5, v6, rfl, s5⟩
      obtain ⟨cn, hcn⟩ : ∃ cn : Int, cn = -20 + (i : Int) := ⟨_, rfl⟩
      rw [← hcn]
      have hL5 := hL4.same s5
      obtain ⟨dx, lo, hi', st, hp, _⟩ := id hL5
      refine ⟨_, rfl, p, dx, _, rfl, hp, no_to _ _ _ _ _, _, rfl, _, rfl, p, a', c', d', x', z', u', S, n, cn, dn, rfl, hL5, r1, r2, S0, S1, fun H6 s6 => ?_⟩
      rw [eL, eM, ← hm]
      refine normG (σ' := [some (.ref p), some (.ref r), some (.int n), some (.ref D), v4, some (.int cn), some (to_ l S m cn dn)]) rfl ?_
      have hD6 := s6 _ _ (s5 _ _ hD4)
      refine ⟨_, rfl, _, rfl, D, _, rfl, .inl (SqL.of hD6), rfl, all_flat _, ?_⟩
      rw [inv_ints]
      unfold to_
      by_cases hc : (cn - l) % S = 0 ∧ 0 ≤ (cn - l) / S ∧ (cn - l) / S < (m : Int)
      · rw [decide_eq_true ((due_mem S0).mpr hc), if_pos hc]
        refine ⟨_, rfl, if_yes rfl ?_⟩
        obtain ⟨j, hj⟩ : ∃ j : Nat, (j : Int) = (if dn = true then (m : Int) - 1 - (cn - l) / S else (cn - l) / S) := ⟨(if dn = true then (m : Int) - 1 - (cn - l) / S else (cn - l) / S).toNat, by cases dn <;> simp <;> omega⟩
        have hjm : j < m := by cases dn <;> simp at hj <;> omega
        have ecn : l + (if dn = true then (m : Int) - 1 - (j : Int) else (j : Int)) * S = cn := by
          have e := Int.emod_add_mul_ediv (cn - l) S
          rw [hc.1, Int.zero_add] at e
          have e2 : (if dn = true then (m : Int) - 1 - (j : Int) else (j : Int)) = (cn - l) / S := by
            rw [hj]
            cases dn <;> simp
            omega
          rw [e2, Int.mul_comm]
          omega
        have hat : ((due l S m dn).map V.int)[j]? = some (.int cn) := by
          rw [List.getElem?_map, due_at hjm, ecn]
          rfl
        refine ⟨_, rfl, _, rfl, .inl ⟨rfl, _, SqL.of hD6⟩, _, rfl, D, _, .int cn, j, .int cn, rfl, rfl, SqL.of hD6, rfl, all_flat _, hat, ?_, ?_, ?_⟩
        · simp [eqV]
        · intro q z hq hz
          rw [List.getElem?_map, due_at (by omega)] at hz
          obtain rfl := (Option.some.inj hz).symm
          have nq : ¬ (l + (if dn = true then (m : Int) - 1 - (q : Int) else (q : Int)) * S = cn) := fun w => by
            have := due_inj (l := l) (dn := dn) S0 (show q < m by omega) hjm (w.trans ecn.symm)
            omega
          simp [eqV, nq]
        · refine ⟨rfl, _, rfl, if_no (not_dec (congrArg V.int hj.symm)) ?_⟩
          refine ⟨_, rfl, _, rfl, _, rfl, if_no rfl ?_⟩
          exact ⟨_, _, _, rfl, s5.trans s6⟩
      · rw [decide_eq_false (fun w => hc ((due_mem S0).mp w)), if_neg hc]
        refine ⟨_, rfl, if_no rfl ?_⟩
        refine ⟨_, rfl, rfl, _, rfl, if_no rfl ?_⟩
        exact ⟨_, _, _, rfl, s5.trans s6⟩
    rintro σ H5 ⟨v4, v5, v6, rfl, s5⟩
    have hD5 := s5 _ _ hD4
    have hL5 := hL4.same s5
    have hlen : ((((due l S m dn).map V.int).length : Nat) : Int) = (m : Int) := by rw [List.length_map, due_len]
    refine ⟨_, rfl, _, rfl, D, _, rfl, .inl (SqL.of hD5), ?_⟩
    refine ⟨_, rfl, D, _, rfl, .inl (SqL.of hD5), _, _, rfl, rfl, ?_⟩
    refine ⟨_, rfl, D, _, rfl, .inl (SqL.of hD5), _, rfl, _, _, rfl, rfl, sz4, fun tt htt => ?_⟩
    rw [hlen]
    have s6 : Same H5 (upd H5 tt (.tup [.int (-1), .int (m : Int), .int ((m : Int) + 5), .int (-(m : Int) - 1)])) := Same.new _ (Same.refl _) htt
    have hT6 : (upd H5 tt (.tup [.int (-1), .int (m : Int), .int ((m : Int) + 5), .int (-(m : Int) - 1)])) tt = some (.tup [.int (-1), .int (m : Int), .int ((m : Int) + 5), .int (-(m : Int) - 1)]) := upd_same
    refine ⟨tt, rfl, ⟨_, SqT.of hT6⟩, fun E2 hE2' => ?_⟩
    have four : ∀ (i : Nat) (xx : V), ([.int (-1), .int (m : Int), .int ((m : Int) + 5), .int (-(m : Int) - 1)] : List V)[i]? = some xx → ∃ kx : Int, xx = .int kx ∧ ¬ (0 ≤ kx ∧ kx ≤ (m : Int) - 1) := by
      intro i xx h1
      match i, h1 with
      | 0, h1 => exact ⟨_, (Option.some.inj h1).symm, by omega⟩
      | 1, h1 => exact ⟨_, (Option.some.inj h1).symm, by omega⟩
      | 2, h1 => exact ⟨_, (Option.some.inj h1).symm, by omega⟩
      | 3, h1 => exact ⟨_, (Option.some.inj h1).symm, by omega⟩
      | i + 4, h1 => cases h1
    refine lc_tup (xs := [.int (-1), .int (m : Int), .int ((m : Int) + 5), .int (-(m : Int) - 1)]) (fun i Hc => Hc E2 = some (.lst ((List.replicate i true).map V.bl)) ∧ (i ≤ 4) ∧ ∀ b o, (upd H5 tt (.tup [.int (-1), .int (m : Int), .int ((m : Int) + 5), .int (-(m : Int) - 1)])) b = some o → Hc b = some o) ⟨upd_same, by decide, Same.new _ (Same.refl _) hE2'⟩ (fun i Hc _ hh => SqT.of (hh.2.2 _ _ hT6)) ?_ ?_
    · rintro i xx Hc hx ⟨hc1, hi4, hc2⟩
      obtain ⟨kx, rfl, hkx⟩ := four i xx hx
      have sm : Same _ Hc := hc2
      have hLc := (hL5.same s6).same sm
      have hi4' : i < 4 := by
        rcases Nat.lt_or_ge i 4 with w | w
        · exact w
        · have e : i = 4 := by omega
          subst e
          cases hx
      refine ⟨rfl, yes_of ?_⟩
      refine ⟨_, rfl, _, rfl, _, rfl, p, a', c', d', x', z', u', S, n, kx, dn, rfl, hLc, r1, r2, S0, S1, ?_, fun H7 s7 => ?_⟩
      · rw [eM, ← hm]
        exact hkx
      · refine ⟨_, s7 _ _ hc1, ?_, ?_, by omega, fun b o e => ?_⟩
        · rw [List.length_map, List.length_replicate]
          have : 1000 ≤ sizeLine := by show 1000 ≤ sizeLine; decide
          omega
        · rw [upd_same, List.replicate_succ', List.map_append]
          rfl
        · rw [upd_ne (ne_of_none e hE2')]
          exact s7 _ _ (hc2 b o e)
    rintro H7 ⟨hE7, _, k7⟩
    refine ⟨E2, List.replicate 4 true, rfl, SqL.of hE7, ?_⟩
    have s7 : Same _ H7 := k7
    exact k _ (s1.trans (s2.trans (s4.trans (s5.trans (s6.trans s7)))))
end
end K22

set_option maxHeartbeats 4000000
namespace K22
open PySem PySem.Spec PyProof.Rows L2 Z
theorem text_len {n : Int} (h0 : 0 ≤ n) (h1 : n < 10 ^ 40) : (PySem.Str.ofString (toString n)).length ≤ 40 := by
  rw [PyProof.Rows.ofString_len]
  cases n with
  | ofNat m =>
    show (Nat.repr m).length ≤ 40
    have h2 : m < 10 ^ 40 := by
      have e : ((m : Nat) : Int) < 10 ^ 40 := h1
      omega
    exact (Nat.length_repr_le_iff (n := m) (by decide : 0 < 40)).mpr h2
  | negSucc m => exact absurd h0 (Int.not_le.mpr (Int.negSucc_lt_zero m))
theorem text_log {n : Int} (h0 : 0 ≤ n) (h1 : n < 10 ^ 40) : n.natAbs.log2 < 1920 := by
  have h2 : n.natAbs < 2 ^ 200 := by
    have : (10 : Int) ^ 40 < 2 ^ 200 := by decide +kernel
    omega
  by_cases h : n.natAbs = 0
  · rw [h]
    decide
  · exact Nat.lt_of_lt_of_le ((Nat.log2_lt h).mpr h2) (by decide)
def spBigG : Sp := fun vs H Q _ => ∃ (p : Addr) (M : Int) (t : Nat), vs = [.ref p, .int M] ∧ 0 < M ∧ M < 10 ^ 40 ∧ t < 900000000 ∧ Pen H p t ∧ ∀ H' (d : Int), 0 ≤ d → d < M → Pen H' p (t + 20) → Keep p H H' → Q (.int d) H'
section
variable {P : Program} {w : World} {K : PySem.W.Frag} {mg : Str → Option Value} {base : Heap}
theorem sc_law_big : FnScope ["_law_pen_here", "_law_many", "_law_found", "_law_k"] ["_law_pen_here", "_law_many"] (defScope s_law_big) := ⟨rfl, rfl, rfl, by decide +kernel, rfl, by decide +kernel, by decide +kernel⟩
theorem ok_bigG {f : Addr} {fd : FuncData} (F : FnP K "_law_big" s_law_big f fd) (T : LwTx K mg) (dDraw : Dn P w K mg base 1 "_law_draw" ["_law_pen_here", "_law_many"] spDraw) : FnOk P w K mg base CX0 2 f fd ["_law_pen_here", "_law_many"] spBigG := by
  refine F.ok sc_law_big (fun vs H Q E h => ?_) (fun cdv A outer s H vs Q E hr h => ?_)
  · obtain ⟨p, M, t, rfl, _⟩ := h
    rfl
  · obtain ⟨p, M, t, rfl, M0, M1, ht, hP, k⟩ := h
    refine ⟨_, PSs.nox (pss_cons (ps_set (i := 2) sc_law_big.nd rfl (Or.inl rfl) pe_int)
      (pss_cons (ps_for PassesOwn.never rfl (pi_range1 (by rfl) T.range (pa_cons (pe_op op_add (pe_op op_fdivN (pe_callB call_len_str (by rfl) T.len PySem.boot_len (pa_cons (pe_callTy call_str_int (by rfl) T.str (by decide +kernel) (pa_cons (pv 1) pa_nil)) pa_nil)) pe_int) pe_int) pa_nil)) (pg_name (i := 3) sc_law_big.nd rfl (.inl rfl)) (pss_one (ps_set (i := 2) sc_law_big.nd rfl (Or.inl rfl) (pe_op op_add (pe_op op_mul (pv 2) (pe_op op_pow pe_int pe_int)) (pe_dn dDraw hr (pa_cons (pv 0) (pa_cons (pe_op op_pow pe_int pe_int) pa_nil)))))))
      (pss_one (ps_ret (pe_op op_modN (pe_callTy call_int1 (by rfl) T.int (by decide +kernel) (pa_cons (pv 2) pa_nil)) (pv 1)))))), ?_⟩
    have tl := text_len (n := M) (by omega) M1
    have szl : 1000 ≤ sizeLine := by show 1000 ≤ sizeLine; decide
    refine ⟨_, rfl, ?_⟩
    refine ⟨_, rfl, text_log (by omega) M1, _, rfl, Nat.le_trans tl (by omega), _, _, rfl, rfl, ⟨by decide, by decide⟩, _, _, rfl, rfl, ?_⟩
    obtain ⟨q, hq⟩ : ∃ q : Nat, (q : Int) = (((PySem.Str.ofString (toString M)).length : Nat) : Int).fdiv 6 + 2 := by
      have e := Int.fdiv_eq_ediv_of_nonneg (((PySem.Str.ofString (toString M)).length : Nat) : Int) (show (0 : Int) ≤ 6 by decide)
      rw [e]
      exact ⟨((((PySem.Str.ofString (toString M)).length : Nat) : Int) / 6 + 2).toNat, by omega⟩
    have hq8 : q ≤ 20 := by
      have e := Int.fdiv_eq_ediv_of_nonneg (((PySem.Str.ofString (toString M)).length : Nat) : Int) (show (0 : Int) ≤ 6 by decide)
      rw [e] at hq
      omega
    refine ⟨(q : Int), congrArg (fun z => [V.int z]) hq.symm, by omega, by omega, ?_⟩
    rw [Int.toNat_natCast]
    refine for_range (lo := 0) (n := q) (fun i σ H' => ∃ (x : Int) (v : Option V), σ = [some (.ref p), some (.int M), some (.int x), v] ∧ 0 ≤ x ∧ Pen H' p (t + i) ∧ Keep p H H') ⟨0, _, rfl, by decide, hP, Keep.refl _ _⟩ ?_ ?_
    · rintro i σ H2 hi ⟨x, v, rfl, hx, hP2, kp⟩
      refine ⟨_, rfl, _, _, rfl, rfl, ⟨by decide, by decide, by decide⟩, _, _, rfl, rfl, .inr ⟨by decide, by decide⟩, ?_⟩
      refine ⟨_, rfl, _, _, rfl, rfl, ⟨by decide, by decide, by decide⟩, p, _, t + i, rfl, by decide, by decide, by omega, hP2, fun H3 d d0 d1 hP3 kp3 => ?_⟩
      have hx2 : 0 ≤ x * 10 ^ (6 : Int).toNat := Int.mul_nonneg hx (by decide)
      exact ⟨_, _, rfl, rfl, _, _, rfl, by omega, hP3, kp.trans kp3⟩
    · rintro σ H2 ⟨x, v, rfl, hx, hP2, kp⟩
      refine ⟨_, rfl, .inl ⟨_, rfl, _, rfl, _, _, rfl, rfl, by omega, ?_⟩⟩
      exact k _ _ (fmod_range M0).1 (fmod_range M0).2 (hP2.mono (by omega)) kp
end
end K22

set_option maxHeartbeats 4000000
namespace K22
open PySem PySem.Spec PyProof.Rows L2 Z
theorem mid {S1 S2 : TS} {D : Ends} {σ : L2.St} {H : Hp} (W2 : L2.St → Hp → Prop) (h1 : (∀ σ' H', W2 σ' H' → S2 D σ' H') → tSeq S1 S2 D σ H) (h2 : ∀ σ' H', W2 σ' H' → S2 D σ' H') : tSeq S1 S2 D σ H := h1 h2
theorem un_next {D : Ends} {σ : L2.St} {H : Hp} (h : D.nx σ H) : tNext D σ H := h
theorem norm {N : L2.St → Hp → Prop} {σ σ' : L2.St} {H : Hp} (e : σ = σ') (h : N σ' H) : N σ H := e ▸ h
def spFarR (K : PySem.W.Frag) : Sp := fun vs H Q _ => ∃ (p lp r : Addr) (t : Nat) (a' c' d' x' z' u' a c d x z u S : Int) (dn : Bool), vs = [.ref p, .ref lp, .ref r] ∧ LpAt K H lp a' c' d' x' z' u' S dn ∧ RgOk a' c' d' ∧ RgOk x' z' u' ∧ (∀ n, pv_ a' c' d' n = pv_ a c d n) ∧ (∀ n, pv_ x' z' u' n = pv_ x z u n) ∧
  RowAt H r a c d x z u S dn ∧ RwOk a c d x z u S ∧ t < 800000000 ∧ Pen H p t ∧ ∀ H', Pen H' p (t + 50) → Keep p H H' → Q (.bl true) H'
theorem no_lc2 (lo hi st : Addr) (S : Int) (dn : Bool) : (lpf lo hi st S dn).lookup ("least_counter" : Str) = none := no_lc lo hi st S dn
theorem to_below {l S m : Int} {dn : Bool} (hS : 1 ≤ S) : to_ l S m (l - S) dn = .non := by
  unfold to_
  have e : l - S - l = S * (-1) := by omega
  rw [if_neg]
  rintro ⟨_, h, _⟩
  rw [e, Int.mul_ediv_cancel_left _ (show S ≠ 0 by omega)] at h
  omega
theorem to_above {l S m : Int} {dn : Bool} (hS : 1 ≤ S) : to_ l S m (l + S * m) dn = .non := by
  unfold to_
  have e : l + S * m - l = S * m := by omega
  rw [if_neg]
  rintro ⟨_, _, h⟩
  rw [e, Int.mul_ediv_cancel_left _ (show S ≠ 0 by omega)] at h
  omega
theorem to_at {l S m y : Int} {dn : Bool} (hS : 1 ≤ S) (h0 : 0 ≤ y) (h1 : y < m) : to_ l S m (l + S * y) dn = .int (if dn = true then m - 1 - y else y) := by
  unfold to_
  have e : l + S * y - l = S * y := by omega
  rw [e, Int.mul_ediv_cancel_left _ (show S ≠ 0 by omega), Int.mul_emod_right, if_pos ⟨rfl, h0, h1⟩]
theorem to_behind {l S m y : Int} {dn : Bool} (hS : 1 < S) : to_ l S m (l + S * y + 1) dn = .non := by
  unfold to_
  have e : l + S * y + 1 - l = 1 + S * y := by omega
  rw [if_neg]
  rintro ⟨h, _, _⟩
  rw [e, Int.add_mul_emod_self_left, Int.emod_eq_of_lt (by decide) hS] at h
  omega
section
variable {P : Program} {w : World} {K : PySem.W.Frag} {mg : Str → Option Value} {base : Heap}
theorem sc_law_far_right : FnScope ["_law_pen_here", "_law_loop", "_law_row", "_law_n", "_law_low", "_law_high", "_law_first", "_law_many", "_law_k", "_law_counter"] ["_law_pen_here", "_law_loop", "_law_row"] (defScope s_law_far_right) := ⟨rfl, rfl, rfl, by decide +kernel, rfl, by decide +kernel, by decide +kernel⟩
theorem ok_farR {f : Addr} {fd : FuncData} (F : FnP K "_law_far_right" s_law_far_right f fd) (T : LwTx K mg) (L : LM P w K mg base) (dBig : Dn P w K mg base 2 "_law_big" ["_law_pen_here", "_law_many"] spBigG)
    (dRefused : Dn P w K mg base 6 "_law_refused_turn" ["_law_loop", "_law_n", "_law_turn"] (spRefusedT K)) : FnOk P w K mg base CX0 7 f fd ["_law_pen_here", "_law_loop", "_law_row"] (spFarR K) := by
  refine F.ok sc_law_far_right (fun vs H Q E h => ?_) (fun cdv A outer s H vs Q E hr h => ?_)
  · obtain ⟨p, lp, r, t, a', c', d', x', z', u', a, c, d, x, z, u, S, dn, rfl, _⟩ := h
    rfl
  · obtain ⟨p, lp, r, t, a', c', d', x', z', u', a, c, d, x, z, u, S, dn, rfl, hL, r1, r2, q1, q2, hR, hRw, ht, hP, kk⟩ := h
    obtain ⟨fdl, Fl, hbl, cl⟩ := L.lc
    obtain ⟨fdm, Fm, hbm, cm⟩ := L.mt
    obtain ⟨fdo, Fo, hbo, co⟩ := L.co
    obtain ⟨fdt, Ft, hbt, ct⟩ := L.to
    refine ⟨_, PSs.nox (pss_cons (ps_set (i := 3) sc_law_far_right.nd rfl (Or.inl rfl) (pe_op op_add (pe_dn dBig hr (pa_cons (pv 0) (pa_cons (pe_op op_sub (pe_op op_pow pe_int pe_int) (pe_op op_pow pe_int pe_int)) pa_nil))) (pe_op op_pow pe_int pe_int)))
      (pss_cons (ps_set (i := 4) sc_law_far_right.nd rfl (Or.inl rfl) (pe_op op_fdivN (pe_op op_add (pe_op op_mul (pe_ix ix_tup (pe_ix ix_tup (pv 2) pe_int (fun _ _ => rfl)) pe_int (fun _ _ => rfl)) (pv 3)) (pe_ix ix_tup (pe_ix ix_tup (pv 2) pe_int (fun _ _ => rfl)) pe_int (fun _ _ => rfl))) (pe_ix ix_tup (pe_ix ix_tup (pv 2) pe_int (fun _ _ => rfl)) pe_int (fun _ _ => rfl))))
      (pss_cons (ps_set (i := 5) sc_law_far_right.nd rfl (Or.inl rfl) (pe_op op_fdivN (pe_op op_add (pe_op op_mul (pe_ix ix_tup (pe_ix ix_tup (pv 2) pe_int (fun _ _ => rfl)) pe_int (fun _ _ => rfl)) (pv 3)) (pe_ix ix_tup (pe_ix ix_tup (pv 2) pe_int (fun _ _ => rfl)) pe_int (fun _ _ => rfl))) (pe_ix ix_tup (pe_ix ix_tup (pv 2) pe_int (fun _ _ => rfl)) pe_int (fun _ _ => rfl))))
      (pss_cons (ps_set (i := 6) sc_law_far_right.nd rfl (Or.inl rfl) (pe_ifExp (pt_cmpR op_ge (pv 4) pe_int (nomark _)) (pv 4) (pe_op op_modN (pe_callTy call_int1 (by rfl) T.int (by decide +kernel) (pa_cons (pv 4) pa_nil)) (pe_ix ix_tup (pv 2) pe_int (fun _ _ => rfl)))))
      (pss_cons (ps_set (i := 7) sc_law_far_right.nd rfl (Or.inl rfl) (pe_callB (call_max2 rfl) (by rfl) T.max (by decide +kernel) (pa_cons pe_int (pa_cons (pe_un un_neg (pe_op op_fdivN (pe_op op_sub (pv 6) (pv 5)) (pe_ix ix_tup (pv 2) pe_int (fun _ _ => rfl)))) pa_nil))))
      (pss_cons (ps_if (PW.pt (pw_or (pt_cmpR op_ne (pe_meth (pv 1) T.clL cm Fm (hr.mono (by decide)) hbm .nil pass0 (pa_cons (pv 3) pa_nil)) (pv 7) (nomark _)) (pw_or1 (pt_cmpR op_ne (pe_meth (pv 1) T.clL cl Fl (hr.mono (by decide)) hbl .nil pass0 (pa_cons (pv 3) pa_nil)) (pv 6) (nomark _))))) (pss_one (ps_ret pe_bl)) pss_nil)
      (pss_cons (ps_if (PW.pt (pw_or (pt_cmpR op_notN (pe_meth (pv 1) T.clL ct Ft (hr.mono (by decide)) hbt .nil pass0 (pa_cons (pv 3) (pa_cons (pe_op op_sub (pv 6) (pe_ix ix_tup (pv 2) pe_int (fun _ _ => rfl))) pa_nil))) pe_non (nomark _)) (pw_or1 (pt_cmpR op_notN (pe_meth (pv 1) T.clL ct Ft (hr.mono (by decide)) hbt .nil pass0 (pa_cons (pv 3) (pa_cons (pe_op op_add (pv 6) (pe_op op_mul (pe_ix ix_tup (pv 2) pe_int (fun _ _ => rfl)) (pv 7))) pa_nil))) pe_non (nomark _))))) (pss_one (ps_ret pe_bl)) pss_nil)
      (pss_cons (ps_if (PW.pt (pw_or (pt_not (pt_val (pe_dn dRefused hr (pa_cons (pv 1) (pa_cons (pv 3) (pa_cons (pv 7) pa_nil)))))) (pw_or1 (pt_not (pt_val (pe_dn dRefused hr (pa_cons (pv 1) (pa_cons (pv 3) (pa_cons (pe_un un_neg pe_int) pa_nil))))))))) (pss_one (ps_ret pe_bl)) pss_nil)
      (pss_cons (ps_if (pt_cmpR op_eq (pv 7) pe_int (nomark _)) (pss_one (ps_ret pe_bl)) pss_nil)
      (pss_cons (ps_for PassesOwn.never rfl (pi_tup (pe_tup (pa_cons pe_int (pa_cons (pe_op op_sub (pv 7) pe_int) (pa_cons (pe_dn dBig hr (pa_cons (pv 0) (pa_cons (pv 7) pa_nil))) pa_nil))))) (pg_name (i := 8) sc_law_far_right.nd rfl (.inl rfl)) (pss_cons (ps_set (i := 9) sc_law_far_right.nd rfl (Or.inl rfl) (pe_op op_add (pv 6) (pe_op op_mul (pe_ix ix_tup (pv 2) pe_int (fun _ _ => rfl)) (pe_ifExp (pt_val (pe_ix ix_tup (pv 2) pe_int (fun _ _ => rfl))) (pe_op op_sub (pe_op op_sub (pv 7) pe_int) (pv 8)) (pv 8)))))
      (pss_cons (ps_if (PW.pt (pw_or (pt_cmpR op_ne (pe_meth (pv 1) T.clL co Fo (hr.mono (by decide)) hbo .nil pass0 (pa_cons (pv 3) (pa_cons (pv 8) pa_nil))) (pv 9) (nomark _)) (pw_or1 (pt_cmpR op_ne (pe_meth (pv 1) T.clL ct Ft (hr.mono (by decide)) hbt .nil pass0 (pa_cons (pv 3) (pa_cons (pv 9) pa_nil))) (pv 8) (nomark _))))) (pss_one (ps_ret pe_bl)) pss_nil)
      (pss_one (ps_if (PW.pt (pw_and (pt_cmpR op_gt (pe_ix ix_tup (pv 2) pe_int (fun _ _ => rfl)) pe_int (nomark _)) (pw_and1 (pt_cmpR op_notN (pe_meth (pv 1) T.clL ct Ft (hr.mono (by decide)) hbt .nil pass0 (pa_cons (pv 3) (pa_cons (pe_op op_add (pv 9) pe_int) pa_nil))) pe_non (nomark _))))) (pss_one (ps_ret pe_bl)) pss_nil)))))
      (pss_one (ps_ret pe_bl)))))))))))), ?_⟩
    have hRw2 := hRw
    unfold RwOk at hRw2
    have S0 : 1 ≤ S := by omega
    have S1 : S ≤ 16 := by omega
    refine ⟨_, rfl, _, _, rfl, rfl, ⟨by decide, by decide, by decide⟩, _, _, rfl, rfl, ⟨by decide, by decide, by decide⟩, _, _, rfl, rfl, p, _, t, rfl, by decide, by decide, by omega, hP, fun H1 v v0 v1 hP1 k1 => ?_⟩
    refine ⟨_, _, rfl, rfl, ⟨by decide, by decide, by decide⟩, _, _, rfl, rfl, ?_⟩
    refine normG (σ' := [some (.ref p), some (.ref lp), some (.ref r), some (.int (v + 10 ^ (3 : Int).toNat)), none, none, none, none, none, none]) rfl ?_
    have v2 : v < 10 ^ 30 := Int.lt_of_lt_of_le v1 (by decide +kernel)
    obtain ⟨n, hn⟩ : ∃ n, n = v + 10 ^ (3 : Int).toNat := ⟨_, rfl⟩
    rw [← hn]
    have n0 : 0 ≤ n := by
      have : (0 : Int) ≤ 10 ^ (3 : Int).toNat := by decide
      omega
    have n1 : n < 10 ^ 31 := by
      have e : (10 : Int) ^ (3 : Int).toNat = 1000 := by decide
      rw [e] at hn
      omega
    have hL1 := hL.keep hP k1
    have hR1 := hR.keep hP k1
    obtain ⟨t1, t2, t3, g1, g2, g3⟩ := id hR1
    clear hL hR hP v0 v1 v2 hn
    refine ⟨_, rfl, r, _, _, _, rfl, rfl, SqT.of g1, at0, t1, _, _, _, rfl, rfl, sqt3 g2, at0, _, rfl, _, _, rfl, rfl, .inl ⟨by omega, by omega⟩, ?_⟩
    refine ⟨_, rfl, r, _, _, _, rfl, rfl, SqT.of g1, at0, t1, _, _, _, rfl, rfl, sqt3 g2, at1, _, _, rfl, rfl, ?_⟩
    refine ⟨_, rfl, r, _, _, _, rfl, rfl, SqT.of g1, at0, t1, _, _, _, rfl, rfl, sqt3 g2, at2, _, _, rfl, rfl, ⟨by omega, by omega⟩, ?_⟩
    refine ⟨_, rfl, r, _, _, _, rfl, rfl, SqT.of g1, at1, t2, _, _, _, rfl, rfl, sqt3 g3, at0, _, rfl, _, _, rfl, rfl, .inl ⟨by omega, by omega⟩, ?_⟩
    refine ⟨_, rfl, r, _, _, _, rfl, rfl, SqT.of g1, at1, t2, _, _, _, rfl, rfl, sqt3 g3, at1, _, _, rfl, rfl, ?_⟩
    refine ⟨_, rfl, r, _, _, _, rfl, rfl, SqT.of g1, at1, t2, _, _, _, rfl, rfl, sqt3 g3, at2, _, _, rfl, rfl, ⟨by omega, by omega⟩, ?_⟩
    refine normG (σ' := [some (.ref p), some (.ref lp), some (.ref r), some (.int n), some (.int (pv_ a c d n)), some (.int (pv_ x z u n)), none, none, none, none]) rfl ?_
    dsimp only
    refine mid (fun σ' H' => σ' = [some (.ref p), some (.ref lp), some (.ref r), some (.int n), some (.int (pv_ a c d n)), some (.int (pv_ x z u n)), some (.int (lc_ (pv_ a c d n) S)), none, none, none] ∧ H' = H1) (fun key => ?_) ?_
    · refine ⟨_, rfl, _, _, rfl, rfl, _, rfl, ite2 (fun h => ?_) (fun h => ?_)⟩
      · refine ⟨_, rfl, key _ _ ⟨?_, rfl⟩⟩
        unfold lc_
        rw [if_pos (of_decide_eq_true h)]
        rfl
      · refine ⟨_, rfl, .inl ⟨_, rfl, _, rfl, r, _, _, _, rfl, rfl, SqT.of g1, at2, _, _, rfl, rfl, by omega, key _ _ ⟨?_, rfl⟩⟩⟩
        unfold lc_
        rw [if_neg (fun w => h (decide_eq_true w))]
        rfl
    rintro σ H' ⟨rfl, rfl⟩
    refine ⟨_, rfl, _, rfl, _, _, rfl, rfl, _, rfl, r, _, _, _, rfl, rfl, SqT.of g1, at2, _, _, rfl, rfl, ⟨by omega, by omega⟩, _, rfl, _, _, rfl, ?_⟩
    refine normG (σ' := [some (.ref p), some (.ref lp), some (.ref r), some (.int n), some (.int (pv_ a c d n)), some (.int (pv_ x z u n)), some (.int (lc_ (pv_ a c d n) S)), some (.int (mn_ a c d x z u S n)), none, none]) rfl ?_
    have eM : mn_ a' c' d' x' z' u' S n = mn_ a c d x z u S n := by
      unfold mn_
      rw [q1, q2]
    have nn := mn_nn (a := a) (c := c) (d := d) (x := x) (z := z) (u := u) (n := n) S0
    have mlt : mn_ a c d x z u S n < 10 ^ 40 := by
      have e : mn_ a c d x z u S n = rn_ (lc_ (pv_ a c d n) S) (pv_ x z u n) S := by
        unfold mn_ mt_
        exact turns_eq S0
      have l0 : 0 ≤ lc_ (pv_ a c d n) S := by
        unfold lc_
        split
        · assumption
        · exact (fmod_range (show 0 < S by omega)).1
      have hb : pv_ x z u n ≤ 10 ^ 33 := by
        have ex : 0 ≤ x * n ∧ x * n ≤ 3 * 10 ^ 31 := by
          have h7 : x = 0 ∨ x = 1 ∨ x = 2 ∨ x = 3 := by omega
          rcases h7 with w | w | w | w <;> subst w <;> omega
        exact (fdiv_bd (show 0 < u by omega) (show (0 : Int) ≤ 10 ^ 33 by decide) (by omega) (by omega)).2
      rw [e, rn_pos S0]
      split
      · have := Int.ediv_le_self S (show 0 ≤ pv_ x z u n - lc_ (pv_ a c d n) S - 1 by omega)
        omega
      · decide
    have eL : lc_ (pv_ a' c' d' n) S = lc_ (pv_ a c d n) S := by rw [q1]
    obtain ⟨l, hl⟩ : ∃ l, l = lc_ (pv_ a c d n) S := ⟨_, rfl⟩
    obtain ⟨m, hm⟩ : ∃ m, m = mn_ a c d x z u S n := ⟨_, rfl⟩
    rw [← hl] at eL
    rw [← hm] at eM mlt nn
    rw [← hl, ← hm]
    clear hl hm
    obtain ⟨dx, lo, hi', st, hp, _⟩ := id hL1
    refine ⟨_, rfl, lp, dx, _, rfl, hp, no_mt _ _ _ _ _, _, rfl, lp, a', c', d', x', z', u', S, n, dn, rfl, hL1, r1, r2, S0, S1, ?_⟩
    rw [eM]
    refine ⟨_, rfl, rfl, _, rfl, if_no (not_dec rfl) ?_⟩
    refine ⟨_, rfl, lp, dx, _, rfl, hp, no_lc _ _ _ _ _, _, rfl, lp, a', c', d', x', z', u', S, n, dn, rfl, hL1, r1, S0, S1, ?_⟩
    rw [eL]
    refine ⟨_, rfl, rfl, _, rfl, if_no (not_dec rfl) ?_⟩
    refine ⟨_, rfl, lp, dx, _, rfl, hp, no_to _ _ _ _ _, _, rfl, _, rfl, _, rfl, r, _, _, _, rfl, rfl, SqT.of g1, at2, _, _, rfl, rfl, lp, a', c', d', x', z', u', S, n, l - S, dn, rfl, hL1, r1, r2, S0, S1, fun H2 s2 => ?_⟩
    rw [eL, to_below S0]
    refine ⟨rfl, _, rfl, if_no rfl ?_⟩
    have hL2 := hL1.same s2
    have g12 := s2 _ _ g1
    obtain ⟨dx, lo, hi', st, hp, _⟩ := id hL2
    refine ⟨_, rfl, lp, dx, _, rfl, hp, no_to _ _ _ _ _, _, rfl, _, rfl, _, rfl, r, _, _, _, rfl, rfl, SqT.of g12, at2, _, rfl, _, _, rfl, rfl, .inl ⟨by omega, by omega⟩, _, _, rfl, rfl, lp, a', c', d', x', z', u', S, n, l + S * m, dn, rfl, hL2, r1, r2, S0, S1, fun H3 s3 => ?_⟩
    rw [eL, eM, to_above S0]
    refine ⟨rfl, _, rfl, if_no rfl ?_⟩
    have hL3 := hL2.same s3
    refine ⟨_, rfl, _, rfl, _, rfl, lp, a', c', d', x', z', u', S, n, m, dn, rfl, hL3, r1, r2, S0, S1, by rw [eM]; omega, fun H4 s4 => ?_⟩
    refine ⟨_, rfl, if_no rfl ?_⟩
    refine ⟨_, rfl, _, rfl, _, rfl, lp, a', c', d', x', z', u', S, n, -1, dn, rfl, hL3.same s4, r1, r2, S0, S1, by omega, fun H5 s5 => ?_⟩
    refine ⟨_, rfl, if_no rfl ?_⟩
    have sA := s2.trans (s3.trans (s4.trans s5))
    have hL5 := hL1.same sA
    have hR5 := hR1.same sA
    have hP5 := hP1.same sA
    have kA := k1.trans (Keep.of sA)
    refine ⟨_, rfl, rfl, _, rfl, ite2 (fun h => ?_) (fun h => ?_)⟩
    · exact kk _ (hP5.mono (by omega)) kA
    have m0 : 0 < m := by
      have : m ≠ 0 := fun w => h (decide_eq_true (congrArg V.int w))
      omega
    refine ⟨_, rfl, _, _, rfl, rfl, ?_⟩
    refine ⟨_, rfl, _, rfl, p, m, t + 20, rfl, m0, mlt, by omega, hP5, fun H6 g g0 g1' hP6 k6 => ⟨sz3, fun tt htt => ?_⟩⟩
    have s7 : Same H6 (upd H6 tt (tup3 0 (m - 1) g)) := Same.new _ (Same.refl _) htt
    have hT7 : (upd H6 tt (tup3 0 (m - 1) g)) tt = some (tup3 0 (m - 1) g) := upd_same
    have hL7 := (hL5.keep hP5 k6).same s7
    have hR7 := (hR5.keep hP5 k6).same s7
    have hP7 := hP6.same s7
    have kB := kA.trans (k6.trans (Keep.of s7))
    refine ⟨tt, rfl, ⟨_, sqt3 hT7⟩, for_tup (xs := [.int 0, .int (m - 1), .int g]) (fun _ σ H' => ∃ v8 v9 : Option V, σ = [some (.ref p), some (.ref lp), some (.ref r), some (.int n), some (.int (pv_ a c d n)), some (.int (pv_ x z u n)), some (.int l), some (.int m), v8, v9] ∧ ∀ b o, (upd H6 tt (tup3 0 (m - 1) g)) b = some o → H' b = some o) ⟨_, _, rfl, fun _ _ e => e⟩ (fun j σ H' _ ⟨_, _, _, s⟩ => sqt3 (s _ _ hT7)) ?_ ?_⟩
    · rintro j xx σ H8 hx ⟨v8, v9, rfl, k8⟩
      have s8 : Same _ H8 := k8
      have hx3 : ∃ kx : Int, xx = .int kx ∧ 0 ≤ kx ∧ kx ≤ m - 1 := by
        match j, hx with
        | 0, hx => exact ⟨_, (Option.some.inj hx).symm, by omega⟩
        | 1, hx => exact ⟨_, (Option.some.inj hx).symm, by omega⟩
        | 2, hx => exact ⟨_, (Option.some.inj hx).symm, by omega⟩
        | j + 3, hx => cases hx
      obtain ⟨kx, rfl, kx0, kx1⟩ := hx3
      have hL8 := hL7.same s8
      obtain ⟨y1, y2, y3, f1, f2, f3⟩ := hR7.same s8
      refine normG (σ' := [some (.ref p), some (.ref lp), some (.ref r), some (.int n), some (.int (pv_ a c d n)), some (.int (pv_ x z u n)), some (.int l), some (.int m), some (.int kx), v9]) rfl ?_
      dsimp only
      refine mid (fun σ' H' => σ' = [some (.ref p), some (.ref lp), some (.ref r), some (.int n), some (.int (pv_ a c d n)), some (.int (pv_ x z u n)), some (.int l), some (.int m), some (.int kx), some (.int (l + S * (if dn = true then m - 1 - kx else kx)))] ∧ H' = H8) (fun key => ?_) ?_
      · refine ⟨_, rfl, _, rfl, r, _, _, _, rfl, rfl, SqT.of f1, at2, _, rfl, r, _, _, _, rfl, rfl, SqT.of f1, at3, ?_⟩
        cases dn
        · exact ⟨_, rfl, iteF ⟨_, rfl, _, _, rfl, rfl, .inl ⟨by omega, by omega⟩, _, _, rfl, rfl, key _ _ ⟨rfl, rfl⟩⟩⟩
        · exact ⟨_, rfl, iteT ⟨_, rfl, _, _, rfl, rfl, _, rfl, _, _, rfl, rfl, _, _, rfl, rfl, .inl ⟨by omega, by omega⟩, _, _, rfl, rfl, key _ _ ⟨rfl, rfl⟩⟩⟩
      rintro σ H' ⟨rfl, rfl⟩
      obtain ⟨y, hy⟩ : ∃ y, y = (if dn = true then m - 1 - kx else kx) := ⟨_, rfl⟩
      have y0 : 0 ≤ y ∧ y < m := by cases dn <;> simp at hy <;> omega
      have yk : (if dn = true then m - 1 - y else y) = kx := by cases dn <;> simp at hy ⊢ <;> omega
      rw [← hy]
      obtain ⟨dx, lo, hi', st, hp, _⟩ := id hL8
      refine ⟨_, rfl, lp, dx, _, rfl, hp, no_co _ _ _ _ _, _, rfl, _, rfl, lp, a', c', d', x', z', u', S, n, kx, dn, rfl, hL8, r1, r2, S0, S1, kx0, by rw [eM]; omega, ?_⟩
      rw [eL, eM, ← hy]
      refine ⟨_, rfl, rfl, _, rfl, if_no (not_dec (congrArg V.int (by rw [Int.mul_comm]))) ?_⟩
      refine ⟨_, rfl, lp, dx, _, rfl, hp, no_to _ _ _ _ _, _, rfl, _, rfl, lp, a', c', d', x', z', u', S, n, l + S * y, dn, rfl, hL8, r1, r2, S0, S1, fun H9 s9 => ?_⟩
      rw [eL, eM, to_at S0 y0.1 y0.2, yk]
      refine ⟨_, rfl, rfl, _, rfl, if_no (not_dec rfl) ?_⟩
      have f19 := s9 _ _ f1
      refine ⟨_, rfl, r, _, _, _, rfl, rfl, SqT.of f19, at2, _, _, rfl, rfl, _, rfl, ?_⟩
      by_cases hS : 1 < S
      · rw [decide_eq_true hS]
        refine iteT ?_
        have hL9 := hL8.same s9
        obtain ⟨dx, lo, hi', st, hp, _⟩ := id hL9
        refine ⟨_, rfl, lp, dx, _, rfl, hp, no_to _ _ _ _ _, _, rfl, _, rfl, _, _, rfl, rfl, lp, a', c', d', x', z', u', S, n, l + S * y + 1, dn, rfl, hL9, r1, r2, S0, S1, fun H10 s10 => ?_⟩
        rw [eL, eM, to_behind hS]
        refine ⟨rfl, _, rfl, if_no rfl ?_⟩
        exact ⟨_, _, rfl, s8.trans (s9.trans s10)⟩
      · rw [decide_eq_false hS]
        refine iteF ?_
        exact ⟨_, _, rfl, s8.trans s9⟩
    rintro σ H8 ⟨v8, v9, rfl, k8⟩
    have s8 : Same _ H8 := k8
    exact kk _ ((hP7.same s8).mono (by omega)) (kB.trans (Keep.of s8))
end
end K22

set_option maxHeartbeats 4000000
namespace K22
open PySem PySem.Spec PyProof.Rows L2 Z
def spLaw (K : PySem.W.Frag) : Sp := fun vs H Q _ => ∃ (a : Addr) (ns : List Int), vs = [.ref a] ∧ SqL K H a (ns.map V.int) ∧ ns.length ≤ 63 ∧ ∀ H', Q (.bl true) H'
abbrev lps : List Str := ["self", "low", "high", "statements", "step", "down"]
/-- what may be called as Loop(..) -/
def LI (P : Program) (w : World) (K : PySem.W.Frag) (mg : Str → Option Value) (base : Heap) : Prop := ∃ fd, FnOk P w K mg base CX0 7 (He.ma K (CL K) "__init__") fd lps (spLI K) ∧ KBn K fd lps 4 ["step", "down"] (fun us ws => us ++ ws) (fun vs zs => vs ++ zs) ∧ ∃ ds, Vals [.int 1, .bl false] ds ∧ Binds K fd lps ds
theorem li_of {P : Program} {w : World} {K : PySem.W.Frag} {mg : Str → Option Value} {base : Heap} {fd : FuncData} (F : FunD K "__init__" "Loop.__init__" (defArgs iLoop__init__) (defBody iLoop__init__) (defScope iLoop__init__) [] [("step", .int 1), ("down", .bl false)] (He.ma K (CL K) "__init__") fd)
    (h : FnOk P w K mg base CX0 7 (He.ma K (CL K) "__init__") fd lps (spLI K)) : LI P w K mg base := by
  obtain ⟨mv, kb⟩ := FunD.kbinds0 (ps := lps) F 4 ["step", "down"] [] (fun us _ ws => us ++ ws) (by simp) (by simp) (fun r1 _ r2 => r1.append r2)
    (fun D doc pm an cdv ct us mv ws l1 l2 l3 => match us, mv, ws, l1, l2, l3 with | [_, _, _, _], [], [_, _], _, _, _ => rfl)
  obtain ⟨ds, v, b⟩ := FunD.binds0 (ps := lps) F 4 (by simp) rfl
    (fun D doc pm an cdv ct us ks l1 l2 => match us, ks, l1, l2 with | [_, _, _, _], [_, _], _, _ => ⟨_, _, _, _, _, _, rfl, rfl, _, _, _, _, _, _, rfl, rfl, rfl⟩)
  exact ⟨fd, h, kb, ds, v, b⟩
theorem rg_of {a c d : Int} (h1 : 0 ≤ a) (h2 : a ≤ 3) (h3 : -20 ≤ c) (h4 : c ≤ 20) (h5 : 1 ≤ d) (h6 : d ≤ 3) : RgOk (a.fdiv (gg 0 a d)) (c.fdiv (gg 0 a d)) (d.fdiv (gg 0 a d)) := by
  have g0 : (0 : Int) < (gg 0 a d : Nat) := by exact_mod_cast gg_pos (show 0 < d by omega)
  have f1 := fdiv_bd g0 (M := 3) (by decide) (show -3 ≤ a by omega) h2
  have f2 := fdiv_nn h1 g0
  have f3 := fdiv_bd g0 (M := 20) (by decide) h3 h4
  have f4 := dv_bd (a := 0) (b := a) (show 0 < d by omega)
  unfold RgOk
  omega
theorem pv_of {a c d n : Int} (h : 1 ≤ d) : pv_ (a.fdiv (gg 0 a d)) (c.fdiv (gg 0 a d)) (d.fdiv (gg 0 a d)) n = pv_ a c d n := by
  have q := val_least (a := 0) (b := a) (c := c) (d := d) (i := 0) (n := n) (show 0 < d by omega)
  rw [Int.zero_fdiv] at q
  unfold pv_
  have e1 : (0 : Int) * 0 + a * n + c = a * n + c := by omega
  have e2 : (0 : Int) * 0 + a.fdiv (gg 0 a d) * n + c.fdiv (gg 0 a d) = a.fdiv (gg 0 a d) * n + c.fdiv (gg 0 a d) := by omega
  rw [e1, e2] at q
  exact q
section
variable {P : Program} {w : World} {K : PySem.W.Frag} {mg : Str → Option Value} {base : Heap}
theorem sc_law : FnScope ["_law_script", "_law_pen_here", "_law_turn", "_law_row", "_law_low", "_law_loop", "_law_n"] ["_law_script"] (defScope s_law) := ⟨rfl, rfl, rfl, by decide +kernel, rfl, by decide +kernel, by decide +kernel⟩
theorem ok_law {f : Addr} {fd : FuncData} (F : FnP K "law" s_law f fd) (T : LwTx K mg) (M : MkS P w K mg base) (MP : MkP P w K mg base) (LIm : LI P w K mg base) (L : LM P w K mg base) (dPen : Dn P w K mg base 1 "_law_pen" ["_law_script"] (spPen K)) (dDraw : Dn P w K mg base 1 "_law_draw" ["_law_pen_here", "_law_many"] spDraw)
    (dRow : Dn P w K mg base 2 "_law_range_row" ["_law_pen_here"] spRow) (dSmall : Dn P w K mg base 7 "_law_small_right" ["_law_loop", "_law_row", "_law_n"] (spSmall K)) (dFarR : Dn P w K mg base 7 "_law_far_right" ["_law_pen_here", "_law_loop", "_law_row"] (spFarR K)) : FnOk P w K mg base CX0 9 f fd ["_law_script"] (spLaw K) := by
  refine F.ok sc_law (fun vs H Q E h => ?_) (fun cdv A outer s H vs Q E hr h => ?_)
  · obtain ⟨a, ns, rfl, _⟩ := h
    rfl
  · obtain ⟨sc, ns, rfl, hS, hl, k⟩ := h
    obtain ⟨fdi, Fi, kbi, dsi, vi, bi⟩ := LIm
    obtain ⟨fdo, Fo, hbo, co⟩ := L.co
    refine ⟨_, PSs.nox (pss_cons (ps_set (i := 1) sc_law.nd rfl (Or.inl rfl) (pe_dn dPen hr (pa_cons (pv 0) pa_nil)))
      (pss_cons (ps_for PassesOwn.never rfl (pi_range1 (by rfl) T.range (pa_cons (pe_op op_add pe_int (pe_dn dDraw hr (pa_cons (pv 1) (pa_cons pe_int pa_nil)))) pa_nil)) (pg_name (i := 2) sc_law.nd rfl (.inl rfl)) (pss_cons (ps_set (i := 3) sc_law.nd rfl (Or.inl rfl) (pe_dn dRow hr (pa_cons (pv 1) pa_nil)))
      (pss_cons (ps_set (i := 4) sc_law.nd rfl (Or.inl rfl) (pe_P T.toPlTx MP hr at_E0 (pa_cons (pe_S T.toStTx M hr (pa_cons pe_int (pa_cons (pe_ix ix_tup (pe_ix ix_tup (pv 3) pe_int (fun _ _ => rfl)) pe_int (fun _ _ => rfl)) (pa_cons (pe_ix ix_tup (pe_ix ix_tup (pv 3) pe_int (fun _ _ => rfl)) pe_int (fun _ _ => rfl)) pa_nil)))) (pa_cons (pe_ix ix_tup (pe_ix ix_tup (pv 3) pe_int (fun _ _ => rfl)) pe_int (fun _ _ => rfl)) pa_nil))))
      (pss_cons (ps_set (i := 5) sc_law.nd rfl (Or.inl rfl) (pe_makeK (n := 3) T.mkL Fi (hr.mono (by decide)) rfl T.gL kbi pass0 (pa_cons (pv 4) (pa_cons (pe_P T.toPlTx MP hr at_E0 (pa_cons (pe_S T.toStTx M hr (pa_cons pe_int (pa_cons (pe_ix ix_tup (pe_ix ix_tup (pv 3) pe_int (fun _ _ => rfl)) pe_int (fun _ _ => rfl)) (pa_cons (pe_ix ix_tup (pe_ix ix_tup (pv 3) pe_int (fun _ _ => rfl)) pe_int (fun _ _ => rfl)) pa_nil)))) (pa_cons (pe_ix ix_tup (pe_ix ix_tup (pv 3) pe_int (fun _ _ => rfl)) pe_int (fun _ _ => rfl)) pa_nil))) (pa_cons (pe_lst pa_nil) pa_nil))) (pk_cons (pe_ix ix_tup (pv 3) pe_int (fun _ _ => rfl)) (pk_cons (pe_ix ix_tup (pv 3) pe_int (fun _ _ => rfl)) pk_nil))))
      (pss_cons (ps_for PassesOwn.never rfl (pi_tup (pe_tup (pa_cons pe_int (pa_cons pe_int (pa_cons (pe_dn dDraw hr (pa_cons (pv 1) (pa_cons pe_int pa_nil))) pa_nil))))) (pg_name (i := 6) sc_law.nd rfl (.inl rfl)) (pss_one (ps_if (pt_not (pt_val (pe_dn dSmall hr (pa_cons (pv 5) (pa_cons (pv 3) (pa_cons (pv 6) pa_nil)))))) (pss_one (ps_ret pe_bl)) pss_nil)))
      (pss_one (ps_if (pt_not (pt_val (pe_dn dFarR hr (pa_cons (pv 1) (pa_cons (pv 5) (pa_cons (pv 3) pa_nil)))))) (pss_one (ps_ret pe_bl)) pss_nil)))))))
      (pss_one (ps_ret (pe_cmpR op_eq (pe_meth (pe_make T.mkL Fi (hr.mono (by decide)) rfl T.gL bi vi pass0 (pa_cons pe_int (pa_cons pe_int (pa_cons (pe_tup pa_nil) pa_nil)))) T.clL co Fo (hr.mono (by decide)) hbo .nil pass0 (pa_cons pe_int (pa_cons pe_int pa_nil))) pe_int (nomark _)))))), ?_⟩
    refine ⟨_, rfl, sc, ns, rfl, hS, hl, fun H1 p s1 hp hP => ?_⟩
    refine ⟨_, rfl, p, 3, 0, rfl, by decide, by decide, by omega, hP, fun H2 d d0 d1 hP2 k2 => ⟨_, _, rfl, rfl, ?_⟩⟩
    obtain ⟨j, rfl⟩ : ∃ j : Nat, d = (j : Int) := ⟨d.toNat, by omega⟩
    refine ⟨1 + (j : Int), rfl, by omega, by omega, ?_⟩
    rw [show (1 + (j : Int)).toNat = j + 1 by omega]
    refine for_range (lo := 0) (n := j + 1) (fun i σ H' => ∃ v2 v3 v4 v5 v6 : Option V, σ = [some (.ref sc), some (.ref p), v2, v3, v4, v5, v6] ∧ Pen H' p (1 + 100 * i)) ⟨_, _, _, _, _, rfl, hP2⟩ ?_ ?_
    · rintro i σ H3 hi ⟨v2, v3, v4, v5, v6, rfl, hP3⟩
      refine normG (σ' := [some (.ref sc), some (.ref p), some (.int (0 + (i : Int))), v3, v4, v5, v6]) rfl ?_
      refine ⟨_, rfl, p, 1 + 100 * i, rfl, by omega, hP3, fun H4 r a c d x z u S dn hR hRw hP4 k4 => ?_⟩
      refine normG (σ' := [some (.ref sc), some (.ref p), some (.int (0 + (i : Int))), some (.ref r), v4, v5, v6]) rfl ?_
      obtain ⟨t1, t2, t3, g1, g2, g3⟩ := id hR
      have hRw2 := hRw
      unfold RwOk at hRw2
      refine ⟨_, rfl, r, _, _, _, rfl, rfl, SqT.of g1, at0, t1, _, _, _, rfl, rfl, sqt3 g2, at0, ?_⟩
      refine ⟨_, rfl, r, _, _, _, rfl, rfl, SqT.of g1, at0, t1, _, _, _, rfl, rfl, sqt3 g2, at1, _, _, _, rfl, fun ps H5 s5 _ hps => ?_⟩
      refine ⟨_, rfl, r, _, _, _, rfl, rfl, SqT.of (s5 _ _ g1), at0, t1, _, _, _, rfl, rfl, sqt3 (s5 _ _ g2), at2, _, d, rfl, 0, a, c, .inl ⟨ps, rfl, hps⟩, fun w => absurd w (by omega), fun _ => ⟨by omega, fun ql H6 s6 hql => ?_⟩⟩
      rw [Int.zero_fdiv] at hql
      have sA := s5.trans s6
      have g16 := sA _ _ g1
      have g36 := sA _ _ g3
      refine normG (σ' := [some (.ref sc), some (.ref p), some (.int (0 + (i : Int))), some (.ref r), some (.ref ql), v5, v6]) rfl ?_
      refine ⟨_, rfl, ?_⟩
      refine ⟨_, rfl, r, _, _, _, rfl, rfl, SqT.of g16, at1, t2, _, _, _, rfl, rfl, sqt3 g36, at0, ?_⟩
      refine ⟨_, rfl, r, _, _, _, rfl, rfl, SqT.of g16, at1, t2, _, _, _, rfl, rfl, sqt3 g36, at1, _, _, _, rfl, fun ps2 H7 s7 _ hps2 => ?_⟩
      refine ⟨_, rfl, r, _, _, _, rfl, rfl, SqT.of (s7 _ _ g16), at1, t2, _, _, _, rfl, rfl, sqt3 (s7 _ _ g36), at2, _, u, rfl, 0, x, z, .inl ⟨ps2, rfl, hps2⟩, fun w => absurd w (by omega), fun _ => ⟨by omega, fun qh H8 s8 hqh => ?_⟩⟩
      rw [Int.zero_fdiv] at hqh
      have s8' := sA.trans (s7.trans s8)
      refine ⟨sz0, fun ls hls => ?_⟩
      have s9 : Same H8 (upd H8 ls (.lst [])) := Same.new _ (Same.refl _) hls
      have g19 := s9 _ _ (s8' _ _ g1)
      refine ⟨_, rfl, r, _, _, _, rfl, rfl, SqT.of g19, at2, _, rfl, r, _, _, _, rfl, rfl, SqT.of g19, at3, rfl, rfl, fun lp dxl np nd ne => ?_⟩
      have s10 : Same (upd H8 ls (.lst [])) (upd (upd (upd H8 ls (.lst [])) dxl (.own lp)) lp (.ins (CL K) dxl [])) := Same.new _ (Same.new _ (Same.refl _) nd) (by rw [upd_ne (Ne.symm ne)]; exact np)
      have rl := rg_of (a := a) (c := c) (d := d) (by omega) (by omega) (by omega) (by omega) (by omega) (by omega)
      have rh := rg_of (a := x) (c := z) (d := u) (by omega) (by omega) (by omega) (by omega) (by omega) (by omega)
      have hd1 : S = 1 ∨ d.fdiv (gg 0 a d) = 1 := by
        rcases hRw2 with ⟨_, _, _, _, _, _, _, _, _, _, _, _, _, _, e⟩
        rcases e with e | e
        · exact .inl e
        · subst e
          have := dv_bd (a := 0) (b := a) (d := 1) (by decide)
          exact .inr (by omega)
      refine ⟨lp, dxl, .ref ql, .ref qh, ls, [], _, _, _, _, _, _, S, dn, rfl, upd_same, .inl ⟨ql, rfl, ((hql.same (s7.trans s8)).same s9).same s10⟩, .inl ⟨qh, rfl, (hqh.same s9).same s10⟩, .inl (s10 _ _ upd_same), by decide, rl, rh, by omega, by omega, hd1, fun lo hi' st H11 hlp hlo hhi kp => ⟨rfl, ?_⟩⟩
      have s11 := Same.made (Same.refl (upd H8 ls (.lst []))) np nd kp
      have sB := s8'.trans (s9.trans s11)
      have hLp : LpAt K H11 lp _ _ _ _ _ _ S dn := ⟨dxl, lo, hi', st, hlp, hlo, hhi⟩
      have hR11 := hR.same sB
      have hP11 := hP4.same sB
      refine normG (σ' := [some (.ref sc), some (.ref p), some (.int (0 + (i : Int))), some (.ref r), some (.ref ql), some (.ref lp), v6]) rfl ?_
      refine ⟨_, rfl, p, 9, 1 + 100 * i + 8, rfl, by decide, by decide, by omega, hP11, fun H12 n n0 n1 hP12 k12 => ⟨sz3, fun tt htt => ?_⟩⟩
      have s13 : Same H12 (upd H12 tt (tup3 0 1 n)) := Same.new _ (Same.refl _) htt
      have hT13 : (upd H12 tt (tup3 0 1 n)) tt = some (tup3 0 1 n) := upd_same
      have hL13 := (hLp.keep hP11 k12).same s13
      have hR13 := (hR11.keep hP11 k12).same s13
      have hP13 := hP12.same s13
      refine ⟨tt, rfl, ⟨_, sqt3 hT13⟩, for_tup (xs := [.int 0, .int 1, .int n]) (fun _ σ H' => ∃ v6 : Option V, σ = [some (.ref sc), some (.ref p), some (.int (0 + (i : Int))), some (.ref r), some (.ref ql), some (.ref lp), v6] ∧ ∀ b o, (upd H12 tt (tup3 0 1 n)) b = some o → H' b = some o) ⟨_, rfl, fun _ _ e => e⟩ (fun j σ H' _ ⟨_, _, s⟩ => sqt3 (s _ _ hT13)) ?_ ?_⟩
      · rintro j' xx σ H14 hx ⟨v6, rfl, k14⟩
        have s14 : Same _ H14 := k14
        have hx3 : ∃ kx : Int, xx = .int kx ∧ 0 ≤ kx ∧ kx ≤ 8 := by
          match j', hx with
          | 0, hx => exact ⟨_, (Option.some.inj hx).symm, by omega⟩
          | 1, hx => exact ⟨_, (Option.some.inj hx).symm, by omega⟩
          | 2, hx => exact ⟨_, (Option.some.inj hx).symm, by omega⟩
          | j + 3, hx => cases hx
        obtain ⟨kx, rfl, kx0, kx1⟩ := hx3
        refine normG (σ' := [some (.ref sc), some (.ref p), some (.int (0 + (i : Int))), some (.ref r), some (.ref ql), some (.ref lp), some (.int kx)]) rfl ?_
        refine ⟨_, rfl, _, rfl, _, rfl, lp, r, _, _, _, _, _, _, a, c, d, x, z, u, S, kx, dn, rfl, hL13.same s14, rl, rh, fun n => pv_of (by omega), fun n => pv_of (by omega), hR13.same s14, hRw, kx0, kx1, fun H15 s15 => ?_⟩
        refine ⟨_, rfl, if_no rfl ?_⟩
        exact ⟨_, rfl, s14.trans s15⟩
      rintro σ H14 ⟨v6, rfl, k14⟩
      have s14 : Same _ H14 := k14
      refine ⟨_, rfl, _, rfl, _, rfl, p, lp, r, 1 + 100 * i + 9, _, _, _, _, _, _, a, c, d, x, z, u, S, dn, rfl, hL13.same s14, rl, rh, fun n => pv_of (by omega), fun n => pv_of (by omega), hR13.same s14, hRw, by omega, hP13.same s14, fun H15 hP15 k15 => ?_⟩
      refine ⟨_, rfl, if_no rfl ?_⟩
      exact ⟨_, _, _, _, _, rfl, hP15.mono (by omega)⟩
    · rintro σ H3 ⟨v2, v3, v4, v5, v6, rfl, hP3⟩
      refine ⟨sz0, fun lt hlt => ?_⟩
      intro lp dxl np nd ne
      have s10 : Same (upd H3 lt (.tup [])) (upd (upd (upd H3 lt (.tup [])) dxl (.own lp)) lp (.ins (CL K) dxl [])) := Same.new _ (Same.new _ (Same.refl _) nd) (by rw [upd_ne (Ne.symm ne)]; exact np)
      have r0 : RgOk 0 2 1 := by unfold RgOk; omega
      have r5 : RgOk 0 5 1 := by unfold RgOk; omega
      refine ⟨lp, dxl, .int 2, .int 5, lt, [], 0, 2, 1, 0, 5, 1, 1, false, rfl, upd_same, .inr ⟨rfl, rfl, rfl⟩, .inr ⟨rfl, rfl, rfl⟩, .inr (s10 _ _ upd_same), by decide, r0, r5, by decide, by decide, .inl rfl, fun lo hi' st H11 hlp hlo hhi kp => ⟨rfl, ?_⟩⟩
      have hLp : LpAt K H11 lp 0 2 1 0 5 1 1 false := ⟨dxl, lo, hi', st, hlp, hlo, hhi⟩
      refine ⟨lp, dxl, _, rfl, hlp, no_co _ _ _ _ _, lp, 0, 2, 1, 0, 5, 1, 1, 0, 1, false, rfl, hLp, r0, r5, by decide, by decide, by decide, by decide +kernel, ?_⟩
      refine ⟨rfl, ?_⟩
      exact k _
end
end K22

set_option maxHeartbeats 0
namespace K22
open PySem PySem.Spec PyProof.Rows L2 Z
theorem run (w : World) : HandSHeadRun.RunEqI R (PySem.W.view R.prog [0, 38]) hk ob 60000 names w := by
  unfold HandSHeadRun.RunEqI
  kernel_rfl
end K22

set_option maxHeartbeats 0
namespace K22
open PySem PySem.Spec PyProof.Rows L2 Z
theorem inx_of {K : PySem.W.Frag} {C : Addr} (h : insB K C = true) : Inx K C := by
  obtain ⟨h1, h⟩ := He.ba h
  obtain ⟨h2, h⟩ := He.ba h
  obtain ⟨h3, h4⟩ := He.ba h
  exact ⟨He.eqO_ok h1, He.eqO_ok h2, of_decide_eq_true h3, of_decide_eq_true h4⟩
theorem fnIn_of {K : PySem.W.Frag} {x q : Str} {a b e d l f fd} (F : FunD K x q a b e d l f fd) : PySem.W.fnIn K f = true := by
  obtain ⟨oc, od, dV, kV, doc, pm, an, cdv, ct, osl, rfl, lk, _⟩ := F.ex
  unfold PySem.W.fnIn
  rw [lk]
theorem facts {P : Program} {w : World} {K : PySem.W.Frag} {h : Heap} {mg : Str → Option Value} {f : Addr} (X : K.In h) (G : h.Ns mainGlobals mg) (hfa : mg ("law" : Str) = some (.ref f)) (c : SaysX fa fn K) :
    ∃ fd : FuncData, (∀ (s : Shared) (v : Value), BindsTo s fd ⟨[v], []⟩ [("_law_script", v)]) ∧ ∀ base : Heap, K.In base → base.Ns mainGlobals mg → FnOk P w K mg base CX0 9 f fd ["_law_script"] (spLaw K) := by
  have gl : ∀ x ∈ glos, mg x = some (.ref (He.ga K x)) := fun x hx => He.glo_ok X G (List.all_eq_true.mp (c.fact 0) x hx)
  have fr : ∀ x ∈ frees, mg x = none := fun x hx => He.free_ok X G (List.all_eq_true.mp (c.fact 1) x hx)
  have ow : ∀ x ∈ owns, Cls K (He.ga K x) ∧ Mk K (He.ga K x) (He.ma K (He.ga K x) "__init__") ∧ Inx K (He.ga K x) := fun x hx => by
    obtain ⟨h1, z⟩ := He.ba (List.all_eq_true.mp (c.fact 2) x hx)
    obtain ⟨h2, h3⟩ := He.ba z
    exact ⟨He.cls_ok h1, He.mkr_ok h2, inx_of h3⟩
  have na : ∀ q ∈ atts, NoAttr K (He.ga K q.1) q.2 := fun q hq => He.noat_ok (List.all_eq_true.mp (c.fact 3) q hq)
  have me : ∀ q ∈ mets, Meth K (He.ga K q.1) q.2 (He.ma K (He.ga K q.1) q.2) := fun q hq => He.meth_ok (List.all_eq_true.mp (c.fact 4) q hq)
  have op : ∀ q ∈ oprs, OpI K (He.ga K q.1) q.2 := fun q hq => opiB_ok (List.all_eq_true.mp (c.fact 5) q hq)
  have kt := c.fact 7
  unfold kits at kt
  simp only [Bool.and_eq_true, decide_eq_true_eq] at kt
  obtain ⟨⟨⟨⟨⟨⟨⟨⟨⟨⟨_, kSi⟩, kSS⟩, kSP⟩, kPP⟩, kPS⟩, kPi⟩, kiP⟩, kiS⟩, kii0⟩, kib0⟩ := kt
  have gcd : mg "gcd" = some (.builtin "math.gcd") := PySem.W.mg_of X G (He.eqO_ok (c.fact 8))
  have ex : PySem.W.exmOne K (.ref (CB K)) (.ref (CB K)) = some true := of_decide_eq_true (c.fact 9)
  have EB : EC K mg "BadNumber" ["what", "number"] := by
    obtain ⟨h1, z⟩ := He.ba (List.all_eq_true.mp (c.fact 6) (("BadNumber", ["what", "number"]) : Str × List Str) (by decide +kernel))
    obtain ⟨h2, z⟩ := He.ba z
    obtain ⟨h3, z⟩ := He.ba z
    obtain ⟨h4, h5⟩ := He.ba z
    exact { gC := gl "BadNumber" (by decide +kernel), ox := oex_of h2 (exkB_ok h1), ex := exkB_ok h1, iC := He.eqO_ok h3, tI := of_decide_eq_true h4, na := fun x hx => He.eqO_ok (List.all_eq_true.mp h5 x hx) }
  have con : ∀ q ∈ ([("TOP_ONE", 999), ("TOP_RANGE_PART", 3), ("TOP_DIVISOR", 3), ("TOP_STEP", 16), ("MOST_STATEMENTS", 16)] : List (Str × Int)), ∃ t, mg q.1 = some (.int q.2 t) := fun q hq => by
    have z := List.all_eq_true.mp (c.fact 10) q hq
    cases e : PySem.W.nsIn K mainGlobals q.1 with
    | none =>
      rw [e] at z
      cases z
    | some o =>
      rw [e] at z
      cases o with
      | none => cases z
      | some v =>
        cases v with
        | int i t =>
          have e2 : i = q.2 := of_decide_eq_true z
          subst e2
          exact ⟨t, PySem.W.mg_of X G e⟩
        | _ => cases z
  have T : LwTx K mg := {
    gS := gl "Straight" (by decide +kernel), clS := (ow "Straight" (by decide +kernel)).1, mkS := (ow "Straight" (by decide +kernel)).2.1, ixS := (ow "Straight" (by decide +kernel)).2.2
    nI := na ("Straight", "i") (by decide +kernel), nN := na ("Straight", "n") (by decide +kernel), nO := na ("Straight", "one") (by decide +kernel)
    kSi := kSi, kSS := kSS, kiS := kiS
    isi := fr _ (by decide +kernel), int := fr _ (by decide +kernel), bool := fr _ (by decide +kernel)
    gP := gl "Place" (by decide +kernel), clP := (ow "Place" (by decide +kernel)).1, mkP := (ow "Place" (by decide +kernel)).2.1, ixP := (ow "Place" (by decide +kernel)).2.2
    nS := na ("Place", "straight") (by decide +kernel), nD := na ("Place", "divisor") (by decide +kernel)
    gcd := gcd, kPP := kPP, kPS := kPS, kSP := kSP, kiP := kiP
    gL := gl "Loop" (by decide +kernel), clL := (ow "Loop" (by decide +kernel)).1, mkL := (ow "Loop" (by decide +kernel)).2.1
    nLo := na ("Loop", "low") (by decide +kernel), nHi := na ("Loop", "high") (by decide +kernel), nSt := na ("Loop", "statements") (by decide +kernel), nSp := na ("Loop", "step") (by decide +kernel), nDn := na ("Loop", "down") (by decide +kernel)
    t1 := con ("TOP_ONE", 999) (by decide +kernel), t2 := con ("TOP_RANGE_PART", 3) (by decide +kernel), t3 := con ("TOP_DIVISOR", 3) (by decide +kernel), t4 := con ("TOP_STEP", 16) (by decide +kernel), t5 := con ("MOST_STATEMENTS", 16) (by decide +kernel)
    len := fr _ (by decide +kernel), tuple := fr _ (by decide +kernel), max := fr _ (by decide +kernel), divmod := fr _ (by decide +kernel)
    list := fr _ (by decide +kernel), range := fr _ (by decide +kernel), str := fr _ (by decide +kernel), all := fr _ (by decide +kernel) }
  obtain ⟨fd_is_integer, F_is_integer⟩ := c.def_ 1 (d := d_is_integer) rfl
  obtain ⟨fd_is_integer_from, F_is_integer_from⟩ := c.def_ 2 (d := d_is_integer_from) rfl
  obtain ⟨fd_straight_like, F_straight_like⟩ := c.def_ 4 (d := d_straight_like) rfl
  obtain ⟨fd_place_like, F_place_like⟩ := c.def_ 5 (d := d_place_like) rfl
  obtain ⟨fd_value_of, F_value_of⟩ := c.def_ 6 (d := d_value_of) rfl
  obtain ⟨fd_check_many, F_check_many⟩ := c.def_ 9 (d := d_check_many) rfl
  obtain ⟨fd_check_number, F_check_number⟩ := c.def_ 10 (d := d_check_number) rfl
  obtain ⟨fd_check_range_place, F_check_range_place⟩ := c.def_ 11 (d := d_check_range_place) rfl
  obtain ⟨fd_turns_from, F_turns_from⟩ := c.def_ 8 (d := d_turns_from) rfl
  obtain ⟨fd__law_pen, F__law_pen⟩ := c.def_ 12 (d := d_law_pen) rfl
  obtain ⟨fd__law_draw, F__law_draw⟩ := c.def_ 13 (d := d_law_draw) rfl
  obtain ⟨fd__law_big, F__law_big⟩ := c.def_ 14 (d := d_law_big) rfl
  obtain ⟨fd__law_integer, F__law_integer⟩ := c.def_ 15 (d := d_law_integer) rfl
  obtain ⟨fd__law_counters, F__law_counters⟩ := c.def_ 16 (d := d_law_counters) rfl
  obtain ⟨fd__law_range_row, F__law_range_row⟩ := c.def_ 17 (d := d_law_range_row) rfl
  obtain ⟨fd__law_refused_turn, F__law_refused_turn⟩ := c.def_ 18 (d := d_law_refused_turn) rfl
  obtain ⟨fd__law_small_right, F__law_small_right⟩ := c.def_ 19 (d := d_law_small_right) rfl
  obtain ⟨fd__law_far_right, F__law_far_right⟩ := c.def_ 20 (d := d_law_far_right) rfl
  obtain ⟨fd_law, F_law⟩ := c.def_ 21 (d := d_law) rfl
  obtain ⟨fdBadNumber__init__, FBadNumber__init__⟩ := c.def_ 22 (d := dBadNumber__init__) rfl
  obtain ⟨fdStraight__init__, FStraight__init__⟩ := c.def_ 24 (d := dStraight__init__) rfl
  obtain ⟨fdPlace__init__, FPlace__init__⟩ := c.def_ 25 (d := dPlace__init__) rfl
  obtain ⟨fdPlace__call__, FPlace__call__⟩ := c.def_ 26 (d := dPlace__call__) rfl
  obtain ⟨fdLoop__init__, FLoop__init__⟩ := c.def_ 27 (d := dLoop__init__) rfl
  obtain ⟨fdLoopmany_turns, FLoopmany_turns⟩ := c.def_ 28 (d := dLoopmany_turns) rfl
  obtain ⟨fdLoopcounter_of, FLoopcounter_of⟩ := c.def_ 29 (d := dLoopcounter_of) rfl
  obtain ⟨fdLoopturn_of, FLoopturn_of⟩ := c.def_ 30 (d := dLoopturn_of) rfl
  obtain ⟨fdLoopleast_counter, FLoopleast_counter⟩ := c.def_ 31 (d := dLoopleast_counter) rfl
  have e := hfa.symm.trans (gl "law" (by decide +kernel))
  cases e
  refine ⟨fd_law, fun s v => FunD.bindsA (ps := ["_law_script"]) F_law (fun _ _ _ _ _ _ us hl => match us, hl with | [_], _ => rfl) s [v] rfl, fun base _ _ => ?_⟩
  have D_is_integer : Dn P w K mg base 1 "is_integer" ["value"] (spIsInt K) := ⟨_, _, ok_isInt F_is_integer T.toStTx, gl _ (by decide +kernel), F_is_integer.kp, FunD.bindsN (ps := ["value"]) F_is_integer fun _ _ _ _ _ _ us hl => match us, hl with | [_], _ => rfl⟩
  have D_is_integer_from : Dn P w K mg base 2 "is_integer_from" ["value", "low", "high"] spIntFrom := ⟨_, _, ok_intFrom F_is_integer_from D_is_integer, gl _ (by decide +kernel), F_is_integer_from.kp, FunD.bindsN (ps := ["value", "low", "high"]) F_is_integer_from fun _ _ _ _ _ _ us hl => match us, hl with | [_, _, _], _ => rfl⟩
  have M : MkS P w K mg base := mk_S T.toStTx FStraight__init__
  have D_straight_like : Dn P w K mg base 3 "straight_like" ["value"] (spLike K) := ⟨_, _, ok_like F_straight_like T.toStTx M, gl _ (by decide +kernel), F_straight_like.kp, FunD.bindsN (ps := ["value"]) F_straight_like fun _ _ _ _ _ _ us hl => match us, hl with | [_], _ => rfl⟩
  have D_value_of : Dn P w K mg base 1 "value_of" ["straight", "i", "n"] (spVal K) := ⟨_, _, ok_val F_value_of T.toStTx, gl _ (by decide +kernel), F_value_of.kp, FunD.bindsN (ps := ["straight", "i", "n"]) F_value_of fun _ _ _ _ _ _ us hl => match us, hl with | [_, _, _], _ => rfl⟩
  have MB : Mx P w K mg base "BadNumber" ["self", "what", "number"] ["what", "number"] := mxBadNumber EB FBadNumber__init__
  have MP : MkP P w K mg base := mk_P T.toPlTx M MB D_straight_like FPlace__init__
  have C : PC P w K mg base := { call := ⟨_, ok_PCall FPlace__call__ T.toPlTx D_value_of, FPlace__call__.bindsN fun _ _ _ _ _ _ us hl => match us, hl with | [_, _, _], _ => rfl, ⟨(me ("Place", "__call__") (by decide +kernel)).at_, (me ("Place", "__call__") (by decide +kernel)).fn, fnIn_of FPlace__call__⟩⟩ }
  have D_place_like : Dn P w K mg base 6 "place_like" ["value"] (spPLike K) := ⟨_, _, ok_pLike F_place_like T.toLpTx MP, gl _ (by decide +kernel), F_place_like.kp, FunD.bindsN (ps := ["value"]) F_place_like fun _ _ _ _ _ _ us hl => match us, hl with | [_], _ => rfl⟩
  have D_check_many : Dn P w K mg base 1 "check_many" ["what", "things", "most"] (spMany K) := ⟨_, _, ok_many F_check_many T.toLpTx, gl _ (by decide +kernel), F_check_many.kp, FunD.bindsN (ps := ["what", "things", "most"]) F_check_many fun _ _ _ _ _ _ us hl => match us, hl with | [_, _, _], _ => rfl⟩
  have D_check_number : Dn P w K mg base 1 "check_number" ["what", "number", "low", "high"] spNumber := ⟨_, _, ok_number F_check_number, gl _ (by decide +kernel), F_check_number.kp, FunD.bindsN (ps := ["what", "number", "low", "high"]) F_check_number fun _ _ _ _ _ _ us hl => match us, hl with | [_, _, _, _], _ => rfl⟩
  have D_check_range_place : Dn P w K mg base 2 "check_range_place" ["place"] (spRange K) := ⟨_, _, ok_range F_check_range_place T.toLpTx D_check_number, gl _ (by decide +kernel), F_check_range_place.kp, FunD.bindsN (ps := ["place"]) F_check_range_place fun _ _ _ _ _ _ us hl => match us, hl with | [_], _ => rfl⟩
  have D_turns_from : Dn P w K mg base 3 "turns_from" ["loop", "least", "n"] (spTurns K) := ⟨_, _, ok_turns F_turns_from T.toLpTx C, gl _ (by decide +kernel), F_turns_from.kp, FunD.bindsN (ps := ["loop", "least", "n"]) F_turns_from fun _ _ _ _ _ _ us hl => match us, hl with | [_, _, _], _ => rfl⟩
  have LC : LM1 P w K mg base := ⟨_, ok_LC FLoopleast_counter T.toLpTx C, FLoopleast_counter.bindsN fun _ _ _ _ _ _ us hl => match us, hl with | [_, _], _ => rfl, (me ("Loop", "least_counter") (by decide +kernel))⟩
  have CO : COx P w K mg base := ⟨_, ok_CO FLoopcounter_of T.toLpTx LC MB D_turns_from D_is_integer_from, FLoopcounter_of.bindsN fun _ _ _ _ _ _ us hl => match us, hl with | [_, _, _], _ => rfl, (me ("Loop", "counter_of") (by decide +kernel))⟩
  have L : LM P w K mg base := {
    lc := LC
    mt := ⟨_, ok_MT FLoopmany_turns T.toLpTx LC D_turns_from, FLoopmany_turns.bindsN fun _ _ _ _ _ _ us hl => match us, hl with | [_, _], _ => rfl, (me ("Loop", "many_turns") (by decide +kernel))⟩
    co := ⟨_, ok_CO0 FLoopcounter_of T.toLpTx LC D_turns_from D_is_integer_from, FLoopcounter_of.bindsN fun _ _ _ _ _ _ us hl => match us, hl with | [_, _, _], _ => rfl, (me ("Loop", "counter_of") (by decide +kernel))⟩
    to := ⟨_, ok_TO FLoopturn_of T.toLpTx LC D_turns_from, FLoopturn_of.bindsN fun _ _ _ _ _ _ us hl => match us, hl with | [_, _, _], _ => rfl, (me ("Loop", "turn_of") (by decide +kernel))⟩ }
  have LIm : LI P w K mg base := li_of FLoop__init__ (ok_LI FLoop__init__ T.toLpTx D_check_many D_check_number D_place_like D_check_range_place)
  have D__law_pen : Dn P w K mg base 1 "_law_pen" ["_law_script"] (spPen K) := ⟨_, _, ok_pen F__law_pen T.bt, gl _ (by decide +kernel), F__law_pen.kp, FunD.bindsN (ps := ["_law_script"]) F__law_pen fun _ _ _ _ _ _ us hl => match us, hl with | [_], _ => rfl⟩
  have D__law_draw : Dn P w K mg base 1 "_law_draw" ["_law_pen_here", "_law_many"] spDraw := ⟨_, _, ok_draw F__law_draw T.bt, gl _ (by decide +kernel), F__law_draw.kp, FunD.bindsN (ps := ["_law_pen_here", "_law_many"]) F__law_draw fun _ _ _ _ _ _ us hl => match us, hl with | [_, _], _ => rfl⟩
  have D__law_big : Dn P w K mg base 2 "_law_big" ["_law_pen_here", "_law_many"] spBigG := ⟨_, _, ok_bigG F__law_big T D__law_draw, gl _ (by decide +kernel), F__law_big.kp, FunD.bindsN (ps := ["_law_pen_here", "_law_many"]) F__law_big fun _ _ _ _ _ _ us hl => match us, hl with | [_, _], _ => rfl⟩
  have D__law_integer : Dn P w K mg base 1 "_law_integer" ["_law_value"] spInteger := ⟨_, _, ok_integer F__law_integer T, gl _ (by decide +kernel), F__law_integer.kp, FunD.bindsN (ps := ["_law_value"]) F__law_integer fun _ _ _ _ _ _ us hl => match us, hl with | [_], _ => rfl⟩
  have D__law_counters : Dn P w K mg base 1 "_law_counters" ["_law_row", "_law_n"] (spCounters K) := ⟨_, _, ok_counters F__law_counters T, gl _ (by decide +kernel), F__law_counters.kp, FunD.bindsN (ps := ["_law_row", "_law_n"]) F__law_counters fun _ _ _ _ _ _ us hl => match us, hl with | [_, _], _ => rfl⟩
  have D__law_range_row : Dn P w K mg base 2 "_law_range_row" ["_law_pen_here"] spRow := ⟨_, _, ok_row F__law_range_row T D__law_draw, gl _ (by decide +kernel), F__law_range_row.kp, FunD.bindsN (ps := ["_law_pen_here"]) F__law_range_row fun _ _ _ _ _ _ us hl => match us, hl with | [_], _ => rfl⟩
  have D__law_refused_turn : Dn P w K mg base 6 "_law_refused_turn" ["_law_loop", "_law_n", "_law_turn"] (spRefusedT K) := ⟨_, _, ok_refusedT F__law_refused_turn T CO EB ex, gl _ (by decide +kernel), F__law_refused_turn.kp, FunD.bindsN (ps := ["_law_loop", "_law_n", "_law_turn"]) F__law_refused_turn fun _ _ _ _ _ _ us hl => match us, hl with | [_, _, _], _ => rfl⟩
  have D__law_small_right : Dn P w K mg base 7 "_law_small_right" ["_law_loop", "_law_row", "_law_n"] (spSmall K) := ⟨_, _, ok_small F__law_small_right T L D__law_counters D__law_integer D__law_refused_turn, gl _ (by decide +kernel), F__law_small_right.kp, FunD.bindsN (ps := ["_law_loop", "_law_row", "_law_n"]) F__law_small_right fun _ _ _ _ _ _ us hl => match us, hl with | [_, _, _], _ => rfl⟩
  have D__law_far_right : Dn P w K mg base 7 "_law_far_right" ["_law_pen_here", "_law_loop", "_law_row"] (spFarR K) := ⟨_, _, ok_farR F__law_far_right T L D__law_big D__law_refused_turn, gl _ (by decide +kernel), F__law_far_right.kp, FunD.bindsN (ps := ["_law_pen_here", "_law_loop", "_law_row"]) F__law_far_right fun _ _ _ _ _ _ us hl => match us, hl with | [_, _, _], _ => rfl⟩
  exact ok_law F_law T M MP LIm L D__law_pen D__law_draw D__law_range_row D__law_small_right D__law_far_right
end K22
open PySem PySem.W PySem.Calls PyProof.Rows
theorem PySem.Challenge.cw_loopsize_k22_turns_of_loops_holds : PySem.Challenge.rw_loopsize_k22_turns_of_loops.Holds := by
  w_on; o_law
  refine HandSHeadRun.head_imp (r := OpenLaw.row PySem.Challenge.rw_loopsize_k22_turns_of_loops) (q := view (OpenLaw.row PySem.Challenge.rw_loopsize_k22_turns_of_loops).prog [0, 38]) (H := K22.hk) (ob := K22.ob) (M := 60000) (loose := K22.names) (d := HandSHeadRun.topDef (OpenLaw.row PySem.Challenge.rw_loopsize_k22_turns_of_loops).prog 38) (kwd := []) K22.ob_eq
    K22.run (by kernel_rfl) (by kernel_rfl) (by kernel_rfl) (by rfl) (by first | assumption | decide +kernel) (by decide +kernel) ⟨rfl, rfl, rfl, rfl, rfl, by decide +kernel⟩ ?hw ?hc
  case hw => w_witness2
  case hc =>
    refine L2.walk_ofE (l := PySem.Challenge.rw_loopsize_k22_turns_of_loops) (n := 63) (k := 9) (x := "_law_script") (CX := L2.CX0) rfl (by decide) (by kernel_rfl) ⟨rfl, by decide, by decide⟩ ?F (fun _ _ _ _ z => z)
    intro w mg fa h Y G hmg0
    obtain ⟨K, KX, c⟩ := Y
    have hmg : mg ("law" : PySem.Str) = some (.ref fa) := by
      have e : (HandSHeadRun.topDef (OpenLaw.row PySem.Challenge.rw_loopsize_k22_turns_of_loops).prog 38).name = ("law" : PySem.Str) := by kernel_rfl
      rw [← e]
      exact hmg0
    obtain ⟨fd, hb, hF⟩ := K22.facts (P := (PySem.Challenge.rw_loopsize_k22_turns_of_loops).prog) (w := w) KX G hmg c
    exact ⟨K, fd, K22.spLaw K, KX, hb, fun H a ns hl _ hS => ⟨a, ns, rfl, hS, hl, fun _ => rfl⟩, hF⟩

