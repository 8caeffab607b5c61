import PyProof.Rows.All
import Wide.All
import OpenK.AllK
import Wide.FinOn
import KE.KExcIs
import HandS.ForMost
import HandS.Exc
import HandS.ExcInit
import HandS.ExcOwn
import HandS.ExcValue
import HandS.ExcField
import HandS.ExcIs
import HandS.IsInst
import HandS.WordsExc
import HandS.Defaults
import HandS.HeadHook1
import HandS.HeadHook2
import HandS.Head0
import HandS.Head1
import HandS.Head2
import HandS.HeadEnd
import KE.KOpsOwn
import PyProof.ListMulRight
import PyProof.FactsAll.int_3
import PyProof.FactsAll.int_5
import HandS.Star
import HandS.Gcd
import HandS.Wide
import HandS.SlotsOwn
import PyProof.InstNe
import HandS.Style
import HandS.Zip
import HandS.Head3
import PySem.Challenge.RW_loopsize_k21_sums_and_conditions
set_option Elab.async false
set_option linter.all false
set_option maxRecDepth 100000
set_option maxHeartbeats 4000000
namespace Z
open PySem PySem.Spec PyProof.Rows L2
section
variable {X : Cx} {e : Expr} {es : List Expr} {te : TE} {ta : TA} {p pos : Pos}
/-- C(e, ..), an own exception class with its own __init__, as a value -/
def tMkE (C : Addr) (sp : Sp) (ta : TA) : TE := fun σ H Q => ta σ H fun vs H1 => vs.length ≤ 1000 ∧ ∀ a, H1 a = none →
  sp (.ref a :: vs) (upd H1 a (exo a C none)) (fun v H2 => v = .non ∧ Q (.ref a) H2) (fun _ _ _ => False)
theorem pe_mkE {CX : CXT} {x : Str} {C fI : Addr} {k : Nat} {fd : FuncData} {ps : List Str} {sp : Sp} (T : OexC X.K C) (iC : PySem.W.findIn X.K (.ref C) "__init__" = some (some (.ref fI))) (tI : PySem.W.typeIn X.K (.ref fI) = some (.type "function"))
    (F1 : FnOk X.prog X.w X.K X.mg X.base CX k fI fd ps sp) (hr : Room (k + 1) X.A) (hb : Binds X.K fd ps []) (hx : Passes CX X (fun _ _ _ => False)) (hg : Gl X x) (hm : X.mg x = some (.ref C)) (ha : PA X (e :: es) ta)
    (hdb : (x == ("__debug__" : Str)) = false := by decide) (he : starEach (e :: es) X.env = (false, eval e X.env) :: starEach es X.env := by rfl) (hpl : (backTo pos (starEach es X.env)).any (·.1) = false := by rfl) :
    PE X (.Call (.Name x p) (e :: es) [] pos) (tMkE C sp ta) := by
  refine ⟨fun pins s σ H Q I h => ?_⟩
  obtain ⟨nm, q, N, bs, bm, sn, sub, ab, col, dd, k0, k1, k2, k3, k5, hC, hbm⟩ := T.cls
  refine wpAny_Call_Name_kw (ld_glob I hg hm ?_ hdb)
  refine PySem.W.callWith_K (h₀ := X.base) I.ok.mod.kin T.kC (thn (ha.run pos pins s σ H _ I h) fun us s1 ⟨vs, H1, I1, r1, hz, q1⟩ => ⟨I1.kIn, ?_⟩) he hpl
  show wpAny _ _ (call (.ref C) us) _ _ _
  obtain ⟨hp, g, dr, tk, os⟩ := s1
  have hsz : hp.objs.size ≤ hp.objs.size + 1 := Nat.le_succ _
  have hn : H1 (hp.objs.size + 1) = none := I1.hok.fresh hsz
  have hq := q1 (hp.objs.size + 1) hn
  have kk : ∀ b o, hp.get? b = some o → ((hp.push (PySem.W.kdv_tup us)).push (PySem.HandSPX.excO C hp.objs.size)).get? b = some o := fun b o e => Heap.get?_push_of_some _ (Heap.get?_push_of_some _ e)
  have hget : ((hp.push (PySem.W.kdv_tup us)).push (PySem.HandSPX.excO C hp.objs.size)).get? (hp.objs.size + 1) = some (PySem.HandSPX.excO C hp.objs.size) := by heap_get
  have I2 : Inv X pins σ (upd H1 (hp.objs.size + 1) (exo (hp.objs.size + 1) C none)) ⟨(hp.push (PySem.W.kdv_tup us)).push (PySem.HandSPX.excO C hp.objs.size), g, dr, tk, os⟩ :=
    I1.laid (t' := tk) (a := hp.objs.size + 1) (o := exo (hp.objs.size + 1) C none) (h' := (hp.push (PySem.W.kdv_tup us)).push (PySem.HandSPX.excO C hp.objs.size)) kk hsz (exo_ok hget)
  have r2 : Vals (V.ref (hp.objs.size + 1) :: vs) (Value.ref (hp.objs.size + 1) :: us) := .cons rfl r1
  have hl : (Value.ref (hp.objs.size + 1) :: us ++ []).length = ps.length := by
    have e := r2.length
    rw [F1.len _ _ _ _ hq] at e
    rw [List.append_nil]
    exact e.symm
  have hb2 : BindsTo ⟨(hp.push (PySem.W.kdv_tup us)).push (PySem.HandSPX.excO C hp.objs.size), g, dr, tk, os⟩ fd ⟨Value.ref (hp.objs.size + 1) :: us, []⟩ (ps.zip (Value.ref (hp.objs.size + 1) :: us)) := by
    have z := hb ⟨(hp.push (PySem.W.kdv_tup us)).push (PySem.HandSPX.excO C hp.objs.size), g, dr, tk, os⟩ (Value.ref (hp.objs.size + 1) :: us) I2.kIn hl
    rw [List.append_nil] at z
    exact z
  have hus : us.length ≤ sizeLine := by
    rw [← Paired.length r1, sizeLine_eq]
    omega
  refine wpAny_call (PySem.HandSPX.call_own F.excBase_ValueError (fun Y => PySem.HandSPX.refsVE_contains Y bm hbm) (I1.kIn _ _ hC) (PySem.W.looks_findIn I1.kIn iC) (fun self => PySem.W.bind_fn I1.kIn self tI) hus
    (codeAny_mono (F1.run _ X.stack _ _ ⟨Value.ref (hp.objs.size + 1) :: us, []⟩ (Value.ref (hp.objs.size + 1) :: us) _ _ (fun _ _ _ => False) (hr.make C us []) (I2.env0.make C us []) hb2 r2 hq) fun r s' hq' => ?_))
  cases r with
  | error er => exact hx pins σ _ _ er s' I2 hq'
  | ok fl =>
    cases fl with
    | ret u =>
      obtain ⟨v, H', I3, rv, ev, q3⟩ := I2.after hq'
      subst ev
      exact ⟨rv, ⟨V.ref (hp.objs.size + 1), H', I3, rfl, q3⟩⟩
    | next => exact False.elim hq'
    | brk => exact False.elim hq'
    | cont => exact False.elim hq'
/-- X(), an own exception class without own __init__, as a value -/
theorem pe_exc0 {C : Addr} {bmB : List Value} {B newId initId : String} {x : Str} (F : ExcBaseFacts B newId initId bmB) (q : PySem.W.excIn X.K C bmB newId = true) (gC : X.mg x = some (.ref C)) (kC : PySem.W.keepIn X.K (.ref C) = true) (hg : Gl X x)
    (hdb : (x == ("__debug__" : Str)) = false := by decide) :
    PE X (.Call (.Name x p) [] [] pos) (fun σ H Q => ∀ a, H a = none → Q (.ref a) (upd H a (ExO (.ref C) a))) := by
  refine ⟨fun pins s σ H Q I h => ?_⟩
  refine wpAny_Call_Name_kw (ld_glob I hg gC ?_ hdb)
  refine PySem.W.callWith_K0 I.kIn kC ?_
  show wpAny _ _ (call (.ref C) []) _ _ _
  obtain ⟨bm, N, nm, qn, bs, hdct, sn, sub, ab, col, dd, k0, k1, k2, k3, k5, mN, hC, hN, hni, T⟩ := exc_obj I.kIn q
  refine wpAny_call_exc_subT F T hC hN hni (fun h' a hm => ?_) (by show 0 ≤ sizeLine; exact Nat.zero_le _)
  have hn : H a = none := I.hok.gone hm.new
  obtain ⟨t, ht, _, _⟩ := hm.there
  exact ⟨.ref a, upd H a (ExO (.ref C) a), I.laidN hm.keeps hm.new hn (exO_ok ht ⟨rfl, rfl⟩ rfl rfl rfl (show 4 < 6 by decide)), rfl, h a hn⟩
/-- e.f, e an exception object with fields, in ordinary code -/
def tXg (K : PySem.W.Frag) (f : Str) (te : TE) : TE := fun σ H Q => te σ H fun x H1 => ∃ (a C d : Addr) (fs : List (Str × V)) (v : V), x = .ref a ∧ H1 a = some (exo a C (some d)) ∧ H1 d = some (exd d fs) ∧ XfC K C ∧
  PySem.W.findIn K (.ref C) f = some none ∧ fs.lookup f = some v ∧ Q v H1
theorem pe_xg {n : Str} (he : PE X e te) (hb : attributeBase e n X.env (eval e X.env) = eval e X.env := by rfl) :
    PE X (.Attribute e n pos) (tXg X.K n te) := by
  refine ⟨fun pins s σ H Q I h => ?_⟩
  refine attr_of hb (thn (he.run pins s σ H _ I h) fun u s1 hh => ?_)
  obtain ⟨x, H1, I1, rx, a, C, d, fs, v, ex, ea, ed, T, hno, l, q⟩ := hh
  subst ex
  obtain rfl : u = Value.ref a := rx
  obtain ⟨t1, ho⟩ := exo_at I1.hok ea
  obtain ⟨mA, hns, hr⟩ := exd_at I1.hok ed
  obtain ⟨od, hod, hl⟩ := lookIn_ns hns
  obtain ⟨u, hu, ru⟩ := RelO.some_of (v := v) (o := mA n) (by rw [← l]; exact hr n)
  have J : PySem.W.InstAt s1.heap a { cls := .ref C, dict := some d, data := .fields #[.ref t1, .none, .none, .none, .bool false, .none] } C (some od) := ⟨ho, rfl, rfl, hod⟩
  exact HandSPX.exc_get I1.kIn J T.ga T.gg T.exC (PySem.W.findObj_own T.hdC hno rfl (by rw [hl, hu])) (handed_of ru) ⟨v, H1, I1.tok _, ru, q⟩
/-- an exception object of the class at C stands at a -/
def ExAt (H : Hp) (a C : Addr) : Prop := (∃ d fs, H a = some (exo a C (some d)) ∧ H d = some (exd d fs)) ∨ H a = some (ExO (.ref C) a)
def rIsX (K : PySem.W.Frag) : List V → Hp → VK → Prop := fun xs H Q => ∃ (a C : Addr) (c : V) (u : Value) (b : Bool), xs = [.ref a, c] ∧ ClsV c u ∧ ExAt H a C ∧ ExcC K C ∧ PySem.W.kitOne K (.ref C) u = some b ∧ Q (.bl b) H
theorem call_isX : CallR X (.builtin "isinstance") (rIsX X.K) := by
  intro pins s σ H xs us Q I r h
  obtain ⟨a, C, c, u, b, rfl, k, hat, T, e, q⟩ := h
  obtain ⟨u1, u2, rfl, r1, r2⟩ := vals2 r
  cases (show u1 = Value.ref a from r1)
  have e2 := k.eq r2
  subst e2
  have hcl : (PySem.W.clsIn X.K C).isSome = true := by
    obtain ⟨cd, hc, _⟩ := PySem.W.any_some T.hd
    rw [hc]
    rfl
  obtain ⟨ox, od, J⟩ : ∃ ox od, PySem.W.InstAt s.heap a ox C od := by
    rcases hat with ⟨d, fs, ea, ed⟩ | ea
    · obtain ⟨t1, ho⟩ := exo_at I.hok ea
      obtain ⟨mA, hns, hr⟩ := exd_at I.hok ed
      obtain ⟨od, hod, hl⟩ := lookIn_ns hns
      exact ⟨{ cls := .ref C, dict := some d, data := .fields #[.ref t1, .none, .none, .none, .bool false, .none] }, some od, ⟨ho, rfl, rfl, hod⟩⟩
    · have x : ObjOk X.prog X.w H s.heap a (ExO (.ref C) a) := I.hok a _ ea
      obtain ⟨⟨oe, vs, ho, hz, hd, _⟩, _⟩ := x
      obtain ⟨oc, od, odt, osl⟩ := oe
      obtain ⟨h1, h2⟩ := hz
      dsimp only at h1 h2 hd
      subst h1 h2 hd
      exact ⟨_, none, ⟨ho, rfl, rfl, trivial⟩⟩
  exact PySem.W.kia_one (PySem.W.kitx_exc hcl T.hg T.hk T.hs T.ha T.hn T.ht T.hm) I.kIn J e (fun z => nomatch z) fun tk => ⟨.bl b, H, I.tok tk, rfl, q⟩
end
end Z

set_option maxHeartbeats 4000000
namespace Z
open PySem PySem.Spec PyProof.Rows L2
/-! ### facts of the head -/
abbrev FaK : Type := PySem.W.Frag → Bool
def obsX (fa : List FaK) (fn : List He.DefD) (K : PySem.W.Frag) : He.AlD := ((fa.all fun f => f K) && fn.all fun d => d.ok K, fn.map fun d => He.fnW K d.at_)
def SaysX (fa : List FaK) (fn : List He.DefD) (K : PySem.W.Frag) : Prop := obsX fa fn K = He.valD fn
def obsXG (n : Nat) (fa : List FaK) (fn : List He.DefD) (g : Addr → Option Obj) : He.AlD := obsX fa fn (He.frG g (He.asD g n))
def hookX (n : Nat) (fa : List FaK) (fn : List He.DefD) : PySem.W.Hook where
  α := He.AlD
  obs := fun s => obsXG n fa fn s.heap.get?
  val := fun _ => He.valD fn
  says := fun _ h => ∃ K : PySem.W.Frag, K.In h ∧ SaysX fa fn K
  of := fun _ _ e => ⟨_, He.frG_in, e⟩
  keeps := fun _ _ _ ⟨K, hK, c⟩ k => ⟨K, PySem.W.Frag.In.keeps hK k, c⟩
theorem obsXG_eq {n : Nat} {fa : List FaK} {fn : List He.DefD} {g : Addr → Option Obj} {s : Shared} (h : ∀ a, g a = s.heap.get? a) : obsXG n fa fn g = (hookX n fa fn).obs s := by
  have e : g = s.heap.get? := funext h
  rw [e] <;> rfl
section
variable {fa : List FaK} {fn : List He.DefD} {K : PySem.W.Frag}
theorem SaysX.fact (c : SaysX fa fn K) (i : Nat) {f : FaK} (h : fa[i]? = some f := by rfl) : f K = true := by
  have c1 := (He.ba (show ((fa.all fun f => f K) && fn.all fun d => d.ok K) = true from congrArg (fun z : He.AlD => z.1) c)).1
  exact List.all_eq_true.mp c1 f (List.mem_of_getElem? h)
theorem SaysX.def_ (c : SaysX fa fn K) (i : Nat) {d : He.DefD} (h : fn[i]? = some d := by rfl) : ∃ fd, FunD K d.name d.qual d.params d.body d.scope (d.dvs K) (d.kws K) (He.fAd K d.at_) fd := by
  have c2 := (He.ba (show ((fa.all fun f => f K) && fn.all fun d => d.ok K) = true from congrArg (fun z : He.AlD => z.1) c)).2
  have e : fn.map (fun d => He.fnW K d.at_) = fn.map He.DefD.val := congrArg (fun z : He.AlD => z.2) c
  have e2 : (fn.map fun d => He.fnW K d.at_)[i]? = (fn.map He.DefD.val)[i]? := by rw [e]
  rw [List.getElem?_map, List.getElem?_map, h] at e2
  exact He.DefD.funD (Option.some.inj e2) (List.all_eq_true.mp c2 d (List.mem_of_getElem? h))
end
/-! ### exception classes -/
def oexB (K : PySem.W.Frag) (C : Addr) : Bool := match K.lookup C with
  | some ⟨.type t, _, .cls cd, sl⟩ => decide (t = "type") && (match cd.mro, sl.toList with
    | .ref C' :: bm, [_, _, _, _, some (.builtin n), _] => decide (C' = C) && (decide (n = "ValueError.__new__") && (!cd.hasDel && (cd.hasDict && PySem.HandSPX.refsVE bm)))
    | _, _ => false)
  | _ => false
theorem oexB_ok {K : PySem.W.Frag} {C : Addr} (q : oexB K C = true) : ∃ nm q N bs bm sn sub ab col dd k0 k1 k2 k3 k5, K.lookup C = some (excClassObj nm q C N bs bm true sn sub ab col dd k0 k1 k2 k3 k5 "ValueError.__new__") ∧ PySem.HandSPX.refsVE bm = true := by
  unfold oexB at q
  split at q
  · rename_i t dd cd sl ho
    split at q
    · rename_i C' bm k0 k1 k2 k3 n k5 hm hs
      obtain ⟨q0, q⟩ := He.ba q
      obtain ⟨q1, q⟩ := He.ba q
      obtain ⟨q2, q⟩ := He.ba q
      obtain ⟨q3, q⟩ := He.ba q
      obtain ⟨q4, q5⟩ := He.ba q
      have e0 := of_decide_eq_true q0
      have e1 := of_decide_eq_true q1
      have e2 := of_decide_eq_true q2
      obtain ⟨nm, bs, mro, ns, qn, hd, sn, sub, ab, col, del⟩ := cd
      dsimp only at hm q3 q4
      have e3 : del = false := by
        cases del
        · rfl
        · cases q3
      subst hm e3 q4
      have hsl : sl = #[k0, k1, k2, k3, some (.builtin n), k5] := by
        obtain ⟨l⟩ := sl
        simp only at hs
        rw [hs]
      subst hsl
      rw [e0, e1, e2] at ho
      exact ⟨nm, qn, ns, bs, bm, sn, sub, ab, col, dd, k0, k1, k2, k3, k5, ho, q5⟩
    · obtain ⟨_, q⟩ := He.ba q
      cases q
  · cases q
/-- all that is asked of an exception class -/
def exkB (K : PySem.W.Frag) (C : Addr) : Bool :=
  He.eqO (PySem.W.findIn K (.ref C) "__setattr__") (some (some (.builtin "object.__setattr__"))) &&
  (decide (PySem.W.subIn K (.ref C) (.type "BaseException") = some true) &&
  (decide (PySem.W.typeIn K (.ref C) = some (.type "type")) &&
  (PySem.W.keepIn K (.ref C) &&
  (He.eqO (PySem.W.findIn K (.ref C) "__getattribute__") (some (some (.builtin "BaseException.__getattribute__"))) &&
  (He.eqO (PySem.W.findIn K (.ref C) "__getattr__") (some none) &&
  (PySem.W.hasDictIn K C &&
  (He.eqO (PySem.W.findIn K (.ref C) "__class__") (some (some (.builtin "object.__class__"))) &&
  (He.eqO (PySem.W.specialIn K (.builtin "object.__class__") "__get__") (some (some (.builtin "getset_descriptor.__get__"))) &&
  (decide (PySem.W.takesIn K (.builtin "object.__class__") = some true) &&
  decide (PySem.W.mroIn K C (.type "object") = some true))))))))))
structure Exk (K : PySem.W.Frag) (C : Addr) : Prop where
  sa : PySem.W.findIn K (.ref C) "__setattr__" = some (some (.builtin "object.__setattr__"))
  exC : PySem.W.subIn K (.ref C) (.type "BaseException") = some true
  tyC : PySem.W.typeIn K (.ref C) = some (.type "type")
  kC : PySem.W.keepIn K (.ref C) = true
  xf : XfC K C
  ec : ExcC K C
theorem exkB_ok {K : PySem.W.Frag} {C : Addr} (q : exkB K C = true) : Exk K C := by
  unfold exkB at q
  obtain ⟨h1, q⟩ := He.ba q
  obtain ⟨h2, q⟩ := He.ba q
  obtain ⟨h3, q⟩ := He.ba q
  obtain ⟨h4, q⟩ := He.ba q
  obtain ⟨h5, q⟩ := He.ba q
  obtain ⟨h6, q⟩ := He.ba q
  obtain ⟨h7, q⟩ := He.ba q
  obtain ⟨h8, q⟩ := He.ba q
  obtain ⟨h9, q⟩ := He.ba q
  obtain ⟨h10, h11⟩ := He.ba q
  have e2 := of_decide_eq_true h2
  exact ⟨He.eqO_ok h1, e2, of_decide_eq_true h3, h4, ⟨He.eqO_ok h5, He.eqO_ok h6, e2, h7⟩, ⟨He.eqO_ok h5, He.eqO_ok h6, e2, h7, He.eqO_ok h8, He.eqO_ok h9, of_decide_eq_true h10, of_decide_eq_true h11⟩⟩
theorem oex_of {K : PySem.W.Frag} {C : Addr} (q : oexB K C = true) (e : Exk K C) : OexC K C := ⟨oexB_ok q, e.sa, e.exC, e.tyC, e.kC⟩
/-! ### a global def that may be called -/
def Dn (P : Program) (w : World) (K : PySem.W.Frag) (mg : Str → Option Value) (base : Heap) (j : Nat) (x : Str) (ps : List Str) (sp : Sp) : Prop :=
  ∃ (f : Addr) (fd : FuncData), FnOk P w K mg base CX0 j f fd ps sp ∧ mg x = some (.ref f) ∧ PySem.W.keepIn K (.ref f) = true ∧ Binds K fd ps []
section
variable {X : Cx} {e : Expr} {es : List Expr} {t : TA} {p pos : Pos}
theorem pe_dn {k j : Nat} {x : Str} {ps : List Str} {sp : Sp} (D : Dn X.prog X.w X.K X.mg X.base j x ps sp) (hr : Room k X.A) (ha : PA X (e :: es) t) (hjk : j ≤ k := by decide) (hg : Gl X x := by rfl)
    (hdb : (x == ("__debug__" : Str)) = false := by decide) (he : starEach (e :: es) X.env = (false, eval e X.env) :: starEach es X.env := by rfl) (hpl : (backTo pos (starEach es X.env)).any (·.1) = false := by rfl) :
    PE X (.Call (.Name x p) (e :: es) [] pos) (tCall sp [] E0 t) := by
  obtain ⟨f, fd, G, hm, hk, hb⟩ := D
  exact pe_call G (hr.mono hjk) hg hm hk hb .nil pass0 ha hdb he hpl
end
end Z

set_option maxHeartbeats 4000000
namespace Z
open PySem PySem.Spec PyProof.Rows L2
/-! ### the pen -/
def penK (c : Addr) (a l : Int) : List (Key × V) := [(.inr "cells", .ref c), (.inr "at", .int a), (.inr "left", .int l)]
theorem key_ne {x y : Str} (h : ¬ x = y) : ¬ ((Sum.inr x : Key) = Sum.inr y) := fun q => h (Sum.inr.inj q)
theorem ca_ : ¬ (("cells" : Str) = "at") := by decide +kernel
theorem cl_ : ¬ (("cells" : Str) = "left") := by decide +kernel
theorem al_ : ¬ (("at" : Str) = "left") := by decide +kernel
theorem penK_cells (c : Addr) (a l : Int) : valV (penK c a l) (Sum.inr "cells" : Key) = some (.ref c) := valV_pos rfl
theorem penK_at (c : Addr) (a l : Int) : valV (penK c a l) (Sum.inr "at" : Key) = some (.int a) := by
  unfold penK
  rw [valV_neg (key_ne ca_)]
  exact valV_pos rfl
theorem penK_left (c : Addr) (a l : Int) : valV (penK c a l) (Sum.inr "left" : Key) = some (.int l) := by
  unfold penK
  rw [valV_neg (key_ne cl_), valV_neg (key_ne al_)]
  exact valV_pos rfl
theorem penK_put_at (c : Addr) (a l b : Int) : putK (penK c a l) (Sum.inr "at" : Key) (.int b) = penK c b l := by
  unfold putK
  rw [valV_any, penK_at, if_pos (show (some (V.int a)).isSome = true from rfl)]
  unfold penK
  simp only [List.map_cons, List.map_nil, if_neg (key_ne ca_), if_neg (key_ne (fun q => al_ q.symm)), if_true]
theorem penK_put_left (c : Addr) (a l b : Int) : putK (penK c a l) (Sum.inr "left" : Key) (.int b) = penK c a b := by
  unfold putK
  rw [valV_any, penK_left, if_pos (show (some (V.int l)).isSome = true from rfl)]
  unfold penK
  simp only [List.map_cons, List.map_nil, if_neg (key_ne cl_), if_neg (key_ne al_), if_true]
/-- a pen stands at p; at most t numbers were drawn -/
def Pen (H : Hp) (p : Addr) (t : Nat) : Prop := ∃ (c : Addr) (ns : List Int) (a l : Int), H p = some (.dK (penK c a l)) ∧ H c = some (.lst (ns.map V.int)) ∧ ns.length ≤ 63 ∧ 0 ≤ a ∧ a ≤ (t : Int) ∧ 0 ≤ l
/-- all but p is as it was -/
def Keep (p : Addr) (H H' : Hp) : Prop := ∀ a o, a ≠ p → H a = some o → H' a = some o
theorem Keep.refl (p : Addr) (H : Hp) : Keep p H H := fun _ _ _ h => h
theorem Keep.trans {p : Addr} {H H1 H2 : Hp} (a : Keep p H H1) (b : Keep p H1 H2) : Keep p H H2 := fun c o n h => b c o n (a c o n h)
theorem Keep.of {p : Addr} {H H' : Hp} (s : Same H H') : Keep p H H' := fun a o _ h => s a o h
theorem Keep.upd {p : Addr} {H H1 : Hp} (o : HO) (k : Keep p H H1) : Keep p H (upd H1 p o) := fun a u n h => by
  rw [upd_ne n]
  exact k a u n h
theorem Keep.new {p l : Addr} {H H1 : Hp} (o : HO) (k : Keep p H H1) (hl : H1 l = none) : Keep p H (L2.upd H1 l o) := fun a u n h => by
  have q := k a u n h
  rw [upd_ne (ne_of_none q hl)]
  exact q
theorem Same.new {l : Addr} {H H1 : Hp} (o : HO) (k : Same H H1) (hl : H1 l = none) : Same H (upd H1 l o) := fun a u h => by
  have q := k a u h
  rw [upd_ne (ne_of_none q hl)]
  exact q
theorem Pen.mono {H : Hp} {p : Addr} {t t' : Nat} (h : Pen H p t) (e : t ≤ t') : Pen H p t' := by
  obtain ⟨c, ns, a, l, h1, h2, h3, h4, h5, h6⟩ := h
  exact ⟨c, ns, a, l, h1, h2, h3, h4, by omega, h6⟩
/-- a pen is not touched where all stands -/
theorem Pen.same {H H' : Hp} {p : Addr} {t : Nat} (h : Pen H p t) (s : Same H H') : Pen H' p t := by
  obtain ⟨c, ns, a, l, h1, h2, h3⟩ := h
  exact ⟨c, ns, a, l, s _ _ h1, s _ _ h2, h3⟩
/-- what is no dict is not the pen -/
theorem Pen.ne {H : Hp} {p a : Addr} {t : Nat} {o : HO} (h : Pen H p t) (e : H a = some o) (d : ∀ kvs, o ≠ .dK kvs) : a ≠ p := by
  obtain ⟨c, ns, x, l, h1, _⟩ := h
  exact ne_of e h1 (d _)
def spPen (K : PySem.W.Frag) : Sp := fun vs H Q _ => ∃ (a : Addr) (ns : List Int), vs = [.ref a] ∧ SqL K H a (ns.map V.int) ∧ ns.length ≤ 63 ∧ ∀ H' p, Same H H' → H p = none → Pen H' p 0 → Q (.ref p) H'
def spDraw : Sp := fun vs H Q _ => ∃ (p : Addr) (m : Int) (t : Nat), vs = [.ref p, .int m] ∧ 0 < m ∧ m < 1073741824 ∧ t < 1000000000 ∧ Pen H p t ∧ ∀ H' (d : Int), 0 ≤ d → d < m → Pen H' p (t + 1) → Keep p H H' → Q (.int d) H'
def spPick : Sp := fun vs H Q _ => ∃ (p l : Addr) (xs : List V) (t : Nat), vs = [.ref p, .ref l] ∧ H l = some (.lst xs) ∧ 0 < xs.length ∧ xs.length < 1000 ∧ t < 1000000000 ∧ Pen H p t ∧
  ∀ H' (i : Nat) (v : V), xs[i]? = some v → Pen H' p (t + 1) → Keep p H H' → Q v H'
/-! ### small readings -/
theorem fmod_range {x m : Int} (h : 0 < m) : 0 ≤ x.fmod m ∧ x.fmod m < m := by
  rw [Int.fmod_eq_emod_of_nonneg _ (Int.le_of_lt h)]
  exact ⟨Int.emod_nonneg _ (by omega), Int.emod_lt_of_pos _ h⟩
theorem fdiv_nn {x m : Int} (hx : 0 ≤ x) (h : 0 < m) : 0 ≤ x.fdiv m := by
  rw [Int.fdiv_eq_ediv_of_nonneg _ (Int.le_of_lt h)]
  exact Int.ediv_nonneg hx (Int.le_of_lt h)
theorem mul_okf {x m : Int} (h : 0 < m) (hm : m ≤ 2147483648) : -(2 ^ 64) < x.fmod m ∧ x.fmod m < 2 ^ 64 := by
  have := fmod_range (x := x) h
  omega
theorem mul_okf1 {x m : Int} (h : 0 < m) (hm : m ≤ 2147483648) : -(2 ^ 64) < x.fmod m + 1 ∧ x.fmod m + 1 < 2 ^ 64 := by
  have := fmod_range (x := x) h
  omega
section
variable {H : Hp} {p c : Addr} {a l b : Int}
theorem pen_left (h : H p = some (.dK (penK c a l))) : DGet H p (.str "left") (some (.int l)) := by
  have z := DGet.k (k := (Sum.inr "left" : Key)) h
  rw [penK_left] at z
  exact z
theorem pen_at (h : H p = some (.dK (penK c a l))) : DGet H p (.str "at") (some (.int a)) := by
  have z := DGet.k (k := (Sum.inr "at" : Key)) h
  rw [penK_at] at z
  exact z
theorem pen_cells (h : H p = some (.dK (penK c a l))) : DGet H p (.str "cells") (some (.ref c)) := by
  have z := DGet.k (k := (Sum.inr "cells" : Key)) h
  rw [penK_cells] at z
  exact z
theorem pen_put_left (b : Int) (h : H p = some (.dK (penK c a l))) : DPut H p (.str "left") (.int b) (upd H p (.dK (penK c a b))) := by
  have z := DPut.k (k := (Sum.inr "left" : Key)) (v := .int b) h (show 3 < sizeLine by decide)
  rw [penK_put_left] at z
  exact z
theorem pen_put_at (b : Int) (h : H p = some (.dK (penK c a l))) : DPut H p (.str "at") (.int b) (upd H p (.dK (penK c b l))) := by
  have z := DPut.k (k := (Sum.inr "at" : Key)) (v := .int b) h (show 3 < sizeLine by decide)
  rw [penK_put_at] at z
  exact z
end
theorem lst_ne_dK {xs : List V} {kvs : List (Key × V)} : HO.lst xs ≠ .dK kvs := fun z => by cases z
/-- data: a list of ints -/
theorem dpAll_ints {K : PySem.W.Frag} {H : Hp} : ∀ ns : List Int, DpAll K H (ns.map V.int) (ns.map PyData.int)
  | [] => .nil
  | _ :: ns => .cons (.int _) (dpAll_ints ns)
theorem canLay_ints : ∀ ns : List Int, PyData.canLayAll0 (ns.map PyData.int) = true
  | [] => by simp [PyData.canLayAll0]
  | _ :: ns => by simp [PyData.canLayAll0, PyData.canLay0, canLay_ints ns]
theorem depth_ints : ∀ ns : List Int, PyData.depthAll (ns.map PyData.int) = 0
  | [] => by simp [PyData.depthAll]
  | _ :: ns => by simp [PyData.depthAll, PyData.depth, depth_ints ns]
theorem shaped_ints (ns : List Int) : SeqAt.shaped (.list (ns.map PyData.int)) = true := by
  simp [SeqAt.shaped, PyData.canLay0, canLay_ints, PyData.depth, depth_ints]
theorem shaped_nil : SeqAt.shaped (.list []) = true := shaped_ints []
theorem eqv_ints_nil (ns : List Int) : PyData.eqv (.list (ns.map PyData.int)) (.list []) = ns.isEmpty := by
  cases ns <;> simp [PyData.eqv, PyData.eqvAll]
theorem get_ints {ns : List Int} {i : Nat} (h : i < ns.length) : (ns.map V.int)[i]? = some (.int (ns[i]'h)) := by
  rw [List.getElem?_map, List.getElem?_eq_getElem h]
  rfl
end Z

set_option maxHeartbeats 4000000
namespace Z
open PySem PySem.W PySem.Calls PyProof.Rows
/-! ### operators of own classes -/
section
/-- an int's own operator does not take an instance -/
theorem mul_no (a : Int) (t : Tok) (l C dx : Addr) :
    Meets (Builtin.«int.__mul__» ⟨[.int a t, .ref l], []⟩) (fun _ R s => s.heap.get? l = some (instObj C dx) ∧ R (.ok (.ret Value.notImplemented)) s) :=
  .of_wp fun prog w A R s h => by
    obtain ⟨hp, g, d, tk, os⟩ := s
    obtain ⟨hl, h⟩ := h
    wp_walk
    exact ⟨_, rfl, h⟩
theorem add_no (a : Int) (t : Tok) (l C dx : Addr) :
    Meets (Builtin.«int.__add__» ⟨[.int a t, .ref l], []⟩) (fun _ R s => s.heap.get? l = some (instObj C dx) ∧ R (.ok (.ret Value.notImplemented)) s) :=
  .of_wp fun prog w A R s h => by
    obtain ⟨hp, g, d, tk, os⟩ := s
    obtain ⟨hl, h⟩ := h
    wp_walk
    exact ⟨_, rfl, h⟩
theorem sub_no (a : Int) (t : Tok) (l C dx : Addr) :
    Meets (Builtin.«int.__sub__» ⟨[.int a t, .ref l], []⟩) (fun _ R s => s.heap.get? l = some (instObj C dx) ∧ R (.ok (.ret Value.notImplemented)) s) :=
  .of_wp fun prog w A R s h => by
    obtain ⟨hp, g, d, tk, os⟩ := s
    obtain ⟨hl, h⟩ := h
    wp_walk
    exact ⟨_, rfl, h⟩
end
section
variable {prog : Program} {w : World} {A : Around} {E : Value → Shared → Prop} {s : Shared} {K : Frag} {x y C f : Addr} {ox oy : Obj} {od oe : Option Obj}
theorem own_binop {op : Operator} {Q : Value → Shared → Prop} (X : K.In s.heap) (I : InstAt s.heap x ox C od) (J : InstAt s.heap y oy C oe) (hc : selfFirst K C = true)
    (hs : findIn K (.ref C) (PySem.dunder op.info.2) = some (some (.ref f))) (hf : isFn K (.ref f) = true)
    (h : wpAny (model prog w) A (call (.ref f) [.ref x, .ref y]) (PySem.W.CmpBack Q) E s) : wpAny (model prog w) A (binaryOp op (.ref x) (.ref y)) Q E s := by
  obtain ⟨cd, rest, hcd, hm⟩ := ksp_first hc
  rcases hi : op.info with ⟨sym, nm'⟩
  rw [hi] at hs
  dsimp only at hs
  have one := ksp_try X I hs hf h
  obtain ⟨hh, g, d, tt, os⟩ := s
  have L1 : Looks (model prog w) hh (typeOf (.ref x)) (.ref C) := I.type
  have L2 : Looks (model prog w) hh (typeOf (.ref y)) (.ref C) := J.type
  have L3 : Looks (model prog w) hh (fillsNumberSlot (.ref C) nm') true := fills_K X hcd hm hs
  have heq : (Value.ref C == Value.ref C) = true := beq_self_eq_true _
  simp only [binaryOp, hi]
  refine wpAny_holding (wpAny_bind ?_)
  unfold binaryOp1
  refine wpAny_bind (L1.at (wpAny_bind (L2.at (wpAny_bind (L3.at ?_)))))
  simp only [heq, if_true]
  ksp_lk
  refine wpAny_mono one (fun r s' hr' => ?_) fun _ _ e => e
  obtain ⟨v, rfl, hq⟩ := hr'
  ksp_lk
  exact hq
theorem refl_binop {op : Operator} {a : Int} {t : Tok} {id : String} {Q : Value → Shared → Prop} (X : K.In s.heap) (I : InstAt s.heap x ox C od) (hc : selfFirst K C = true)
    (hs0 : findIn K (.ref C) (PySem.dunder op.info.2) = some (some (.ref y)))
    (hs : findIn K (.ref C) (dunderR op.info.2) = some (some (.ref f))) (hf : isFn K (.ref f) = true) (hsub : subIn K (.ref C) (.type "int") = some false)
    (hfill : fillsNumberSlot (.type "int") op.info.2 = pure true) (hl : Slot "int" (dunder op.info.2) id)
    (hno : wpAny (model prog w) A (call (.builtin id) [.int a t, .ref x]) (fun v s' => v = .notImplemented ∧ s' = s) E s)
    (h : wpAny (model prog w) A (call (.ref f) [.ref x, .int a t]) (PySem.W.CmpBack Q) E s) : wpAny (model prog w) A (binaryOp op (.int a t) (.ref x)) Q E s := by
  obtain ⟨cd, rest, hcd, hm⟩ := ksp_first hc
  rcases hi : op.info with ⟨sym, nm'⟩
  rw [hi] at hs hs0 hfill hl
  dsimp only at hs hs0 hfill hl
  have one := ksp_try X I hs hf h
  have two : wpAny (model prog w) A (tryMethod (.int a t) (dunder nm') (.ref x)) (fun r s' => r = none ∧ s' = s) E s :=
    wpAny_tryMethod_declines (s := s) (T := "int") rfl hl (wpAny_mono hno (fun v s' z => ⟨z.1, rfl, z.2⟩) fun _ _ e => e)
  obtain ⟨hh, g, d, tt, os⟩ := s
  have L1 : Looks (model prog w) hh (typeOf (.int a t)) (.type "int") := Looks.of_pure rfl
  have L2 : Looks (model prog w) hh (typeOf (.ref x)) (.ref C) := I.type
  have L3 : Looks (model prog w) hh (fillsNumberSlot (.ref C) nm') true := fills_K X hcd hm hs0
  have L4 : Looks (model prog w) hh (fillsNumberSlot (.type "int") nm') true := Looks.of_pure hfill
  have L5 : Looks (model prog w) hh (isSubtype (.ref C) (.type "int")) false := looks_subIn X hsub
  have L6 : Looks (model prog w) hh (numberSlotInPython (.type "int") nm') false := Looks.of_pure rfl
  have hne : (Value.type "int" == Value.ref C) = false := Bool.eq_false_iff.mpr fun q => by cases beq_iff_eq.mp q
  simp only [binaryOp, hi]
  refine wpAny_holding (wpAny_bind ?_)
  unfold binaryOp1
  refine wpAny_bind (L1.at (wpAny_bind (L2.at (wpAny_bind (L4.at ?_)))))
  simp only [hne, Bool.false_eq_true, if_false]
  ksp_lk
  refine wpAny_mono two (fun r s' hr' => ?_) fun _ _ e => e
  obtain ⟨rfl, rfl⟩ := hr'
  ksp_lk
  refine wpAny_mono one (fun r s' hr' => ?_) fun _ _ e => e
  obtain ⟨v, rfl, hq⟩ := hr'
  ksp_lk
  exact hq
end
end Z

set_option maxHeartbeats 4000000
namespace Z
open PySem PySem.Spec PyProof.Rows L2
section
variable {prog : Program} {w : World} {A : Around} {E : Value → Shared → Prop} {s : Shared} {x C dx : Addr}
theorem mul_no_call (a : Int) (t : Tok) (h : s.heap.get? x = some (PySem.W.instObj C dx)) : wpAny (model prog w) A (call (.builtin "int.__mul__") [.int a t, .ref x]) (fun v s' => v = .notImplemented ∧ s' = s) E s :=
  call_meets PySem.F.slot_int_mul (s := s) rfl PySem.F.entry_int_mul (PySem.F.args_int_mul_2 _ _) (mul_no a t x C dx) ⟨h, rfl, rfl⟩
end
/-- what is asked of a class whose instances stand beside ints -/
def opiB (K : PySem.W.Frag) (C : Addr) (nm : String) : Bool :=
  PySem.W.selfFirst K C && ((match PySem.W.findIn K (.ref C) (dunderR nm) with
    | some none => true
    | some (some (.ref _)) => true
    | _ => false) && ((PySem.W.findIn K (.type "int") (dunder nm)).isSome && ((PySem.W.findIn K (.type "int") (dunderR nm)).isSome && (decide (PySem.W.subIn K (.type "int") (.ref C) = some false) && decide (PySem.W.subIn K (.ref C) (.type "int") = some false)))))
structure OpI (K : PySem.W.Frag) (C : Addr) (nm : String) : Prop where
  sf : PySem.W.selfFirst K C = true
  rr : ∃ rc, PySem.W.findIn K (.ref C) (dunderR nm) = some rc ∧ (rc = none ∨ ∃ g : Addr, rc = some (.ref g))
  i1 : ∃ fo, PySem.W.findIn K (.type "int") (dunder nm) = some fo
  i2 : ∃ fo, PySem.W.findIn K (.type "int") (dunderR nm) = some fo
  s1 : PySem.W.subIn K (.type "int") (.ref C) = some false
  s2 : PySem.W.subIn K (.ref C) (.type "int") = some false
theorem opiB_ok {K : PySem.W.Frag} {C : Addr} {nm : String} (h : opiB K C nm = true) : OpI K C nm := by
  obtain ⟨h1, h⟩ := He.ba h
  obtain ⟨h2, h⟩ := He.ba h
  obtain ⟨h3, h⟩ := He.ba h
  obtain ⟨h4, h⟩ := He.ba h
  obtain ⟨h5, h6⟩ := He.ba h
  refine ⟨h1, ?_, Option.isSome_iff_exists.mp h3, Option.isSome_iff_exists.mp h4, of_decide_eq_true h5, of_decide_eq_true h6⟩
  cases e : PySem.W.findIn K (.ref C) (dunderR nm) with
  | none =>
    rw [e] at h2
    cases h2
  | some o =>
    rw [e] at h2
    cases o with
    | none => exact ⟨_, rfl, .inl rfl⟩
    | some v =>
      cases v with
      | ref g => exact ⟨_, rfl, .inr ⟨g, rfl⟩⟩
      | _ => cases h2
/-- a method that the class itself has, and its promise -/
def Om (P : Program) (w : World) (K : PySem.W.Frag) (mg : Str → Option Value) (base : Heap) (C : Addr) (k : Nat) (name : Str) (sp : Sp) : Prop :=
  ∃ (f : Addr) (fd : FuncData) (ps : List Str), FnOk P w K mg base CX0 k f fd ps sp ∧ PySem.W.findIn K (.ref C) name = some (some (.ref f)) ∧ PySem.W.isFn K (.ref f) = true ∧ Binds K fd ps []
theorem not_ni {v : V} {u : Value} (r : RelV v u) : u ≠ .notImplemented := by
  intro e
  subst e
  cases v with
  | non => cases r
  | bl b => cases r
  | int i => obtain ⟨_, r⟩ := r; cases r
  | str x => obtain ⟨_, r⟩ := r; cases r
  | byt b => obtain ⟨_, r⟩ := r; cases r
  | flt b => obtain ⟨_, r⟩ := r; cases r
  | ref a => cases r
  | ty n => cases r
section
variable {X : Cx}
theorem back_of {pins : List (Addr × Obj)} {σ : L2.St} {Q : VK} {u : Value} {s' : Shared} (h : EP X pins σ Q u s') : PySem.W.CmpBack (EP X pins σ Q) u s' := by
  obtain ⟨v, H', I, r, q⟩ := h
  have n := not_ni r
  cases u <;> first | exact absurd rfl n | exact ⟨v, H', I, r, q⟩
theorem om_run {pins : List (Addr × Obj)} {σ : L2.St} {H : Hp} {s : Shared} {Q : VK} {us : List Value} {vs : List V} {k : Nat} {f : Addr} {fd : FuncData} {ps : List Str} {sp : Sp} (F : FnOk X.prog X.w X.K X.mg X.base CX0 k f fd ps sp) (hb : Binds X.K fd ps []) (hr : Room k X.A)
    (I : L2.Inv X pins σ H s) (r : Vals vs us) (h : sp vs H Q E0) : wpAny (model X.prog X.w) X.A (call (.ref f) us) (PySem.W.CmpBack (EP X pins σ Q)) X.xe s := by
  have h2 : sp (vs ++ []) H Q E0 := by
    rw [List.append_nil]
    exact h
  exact wpAny_mono (run_fn F hr hb .nil pass0 I r h2) (fun u s' q => back_of q) fun _ _ z => z
theorem ins_at {pins : List (Addr × Obj)} {σ : L2.St} {H : Hp} {s : Shared} {a C dx : Addr} {fs : List (Str × V)} (I : L2.Inv X pins σ H s) (e : H a = some (.ins C dx fs)) : ∃ od, PySem.W.InstAt s.heap a (PySem.W.instObj C dx) C (some od) := by
  obtain ⟨mA, O, _⟩ := ins_get I.hok e
  obtain ⟨od, J, _⟩ := O.look
  exact ⟨od, J⟩
/-- x op y, both of the class C -/
def rOwn (C : Addr) (sp : Sp) : R2 := fun x y H Q => ∃ (a b dx dy : Addr) (fs gs : List (Str × V)), x = .ref a ∧ y = .ref b ∧ H a = some (.ins C dx fs) ∧ H b = some (.ins C dy gs) ∧ sp [x, y] H Q E0
theorem op_own {op : Operator} {C : Addr} {k j : Nat} {sp : Sp} (O : Om X.prog X.w X.K X.mg X.base C j (dunder op.info.2) sp) (T : OpI X.K C op.info.2) (hr : Room k X.A) (hjk : j ≤ k := by decide) : OpR X (binaryOp op) (rOwn C sp) := by
  intro pins s σ H x y v u Q I rx ry h
  obtain ⟨a, b, dx, dy, fs, gs, rfl, rfl, ha, hb, q⟩ := h
  obtain ⟨f, fd, ps, F, hs, hf, hbd⟩ := O
  have rr : Vals [V.ref a, V.ref b] [v, u] := .cons rx (.cons ry .nil)
  cases (show v = Value.ref a from rx)
  cases (show u = Value.ref b from ry)
  obtain ⟨od, J⟩ := ins_at I ha
  obtain ⟨oe, J'⟩ := ins_at I hb
  exact own_binop I.kIn J J' T.sf hs hf (om_run F hbd (hr.mono hjk) I rr q)
/-- x op k, x of the class C, k an int -/
def rOwnI (C : Addr) (sp : Sp) : R2 := fun x y H Q => ∃ (a dx : Addr) (fs : List (Str × V)) (i : Int), x = .ref a ∧ y = .int i ∧ H a = some (.ins C dx fs) ∧ sp [x, y] H Q E0
theorem op_ownI {op : Operator} {C : Addr} {k j : Nat} {sp : Sp} (O : Om X.prog X.w X.K X.mg X.base C j (dunder op.info.2) sp) (T : OpI X.K C op.info.2) (hr : Room k X.A) (hjk : j ≤ k := by decide) : OpR X (binaryOp op) (rOwnI C sp) := by
  intro pins s σ H x y v u Q I rx ry h
  obtain ⟨a, dx, fs, i, rfl, rfl, ha, q⟩ := h
  obtain ⟨f, fd, ps, F, hs, hf, hbd⟩ := O
  have rr : Vals [V.ref a, V.int i] [v, u] := .cons rx (.cons ry .nil)
  cases (show v = Value.ref a from rx)
  obtain ⟨t, rfl⟩ := (show ∃ t, u = Value.int i t from ry)
  obtain ⟨od, J⟩ := ins_at I ha
  obtain ⟨m, hF⟩ := I.fr
  obtain ⟨rc, hrc, hp⟩ := T.rr
  obtain ⟨fo, h1⟩ := T.i1
  obtain ⟨ro, h2⟩ := T.i2
  exact PySem.W.ksp_binT hF I.ok.mod.kin J rfl T.sf hs hf hrc hp h1 h2 T.s1 (om_run F hbd (hr.mono hjk) I rr q)
/-- k * x, k an int, x of the class C -/
def rRefl (C : Addr) (sp : Sp) : R2 := fun x y H Q => ∃ (a dx : Addr) (fs : List (Str × V)) (i : Int), x = .int i ∧ y = .ref a ∧ H a = some (.ins C dx fs) ∧ sp [y, x] H Q E0
theorem op_reflMul {C : Addr} {k j j0 : Nat} {sp sp0 : Sp} (O0 : Om X.prog X.w X.K X.mg X.base C j0 (dunder "mul") sp0) (O : Om X.prog X.w X.K X.mg X.base C j (dunderR "mul") sp) (T : OpI X.K C "mul") (hr : Room k X.A) (hjk : j ≤ k := by decide) : OpR X (binaryOp .Mult) (rRefl C sp) := by
  intro pins s σ H x y v u Q I rx ry h
  obtain ⟨a, dx, fs, i, rfl, rfl, ha, q⟩ := h
  obtain ⟨f, fd, ps, F, hs, hf, hbd⟩ := O
  obtain ⟨f0, _, _, _, hs0, _, _⟩ := O0
  have rr : Vals [V.ref a, V.int i] [u, v] := .cons ry (.cons rx .nil)
  obtain ⟨t, rfl⟩ := (show ∃ t, v = Value.int i t from rx)
  cases (show u = Value.ref a from ry)
  obtain ⟨od, J⟩ := ins_at I ha
  exact refl_binop (op := .Mult) I.kIn J T.sf hs0 hs hf T.s2 PySem.F.fills_int_mul PySem.F.slot_int_mul (mul_no_call i t J.1) (om_run F hbd (hr.mono hjk) I rr q)
/-- x == y, x of the class C with its own == -/
def rEqOwn (K : PySem.W.Frag) (C : Addr) (sp : Sp) : R2 := fun x y H Q => ∃ (a dx : Addr) (fs : List (Str × V)) (t : Value), x = .ref a ∧ H a = some (.ins C dx fs) ∧ TyOf K H y t ∧ PySem.W.notFirst K C t = true ∧ sp [x, y] H Q E0
theorem ty_looks {pins : List (Addr × Obj)} {σ : L2.St} {H : Hp} {s : Shared} {y : V} {u t : Value} (I : L2.Inv X pins σ H s) (ry : RelV y u) (ty : TyOf X.K H y t) : PySem.W.Looks (model X.prog X.w) s.heap (typeOf u) t := by
  obtain ⟨P, Z, p, _⟩ := kit_of I ry (.base ty)
  exact Z.ty _ _ I.kIn p
theorem op_eqOwn {C : Addr} {k j : Nat} {sp : Sp} (O : Om X.prog X.w X.K X.mg X.base C j "__eq__" sp) (hr : Room k X.A) (hjk : j ≤ k := by decide) : OpR X (compareOp .Eq) (rEqOwn X.K C sp) := by
  intro pins s σ H x y v u Q I rx ry h
  obtain ⟨a, dx, fs, t, rfl, ha, ty, hn, q⟩ := h
  obtain ⟨f, fd, ps, F, hs, hf, hbd⟩ := O
  have rr : Vals [V.ref a, y] [v, u] := .cons rx (.cons ry .nil)
  cases (show v = Value.ref a from rx)
  obtain ⟨od, J⟩ := ins_at I ha
  obtain ⟨m, hF⟩ := I.fr
  show wpAny (model X.prog X.w) X.A (richCompare .Eq (.ref a) u) (EP X pins σ Q) X.xe s
  exact PySem.W.cmp_K (op := .Eq) hr.units0 hF I.ok.mod.kin J (ty_looks I ry ty) hn hs hf (om_run F hbd (hr.mono hjk) I rr q)
end
end Z

set_option maxHeartbeats 4000000
namespace Z
open PySem PySem.Spec PyProof.Rows L2
section
variable {prog : Program} {w : World} {A : Around} {E : Value → Shared → Prop} {s : Shared} {x C dx f : Addr} {K : PySem.W.Frag} {ox : Obj} {od : Option Obj} {b tb : Value}
theorem add_no_call (a : Int) (t : Tok) (h : s.heap.get? x = some (PySem.W.instObj C dx)) : wpAny (model prog w) A (call (.builtin "int.__add__") [.int a t, .ref x]) (fun v s' => v = .notImplemented ∧ s' = s) E s :=
  call_meets PySem.F.slot_int_add (s := s) rfl PySem.F.entry_int_add (PySem.F.args_int_add_2 _ _) (add_no a t x C dx) ⟨h, rfl, rfl⟩
theorem sub_no_call (a : Int) (t : Tok) (h : s.heap.get? x = some (PySem.W.instObj C dx)) : wpAny (model prog w) A (call (.builtin "int.__sub__") [.int a t, .ref x]) (fun v s' => v = .notImplemented ∧ s' = s) E s :=
  call_meets PySem.F.slot_int_sub (s := s) rfl PySem.F.entry_int_sub (PySem.F.args_int_sub_2 _ _) (sub_no a t x C dx) ⟨h, rfl, rfl⟩
/-- object's own !=, on an instance whose class has its own == -/
theorem objNe_entry (hu : A.units < cLine) (X : K.In s.heap) (I : PySem.W.InstAt s.heap x ox C od) (hs : PySem.W.findIn K (.ref C) "__eq__" = some (some (.ref f))) (hf : PySem.W.isFn K (.ref f) = true) {Q : Fin → Shared → Prop}
    (hcall : wpAny (model prog w) A (call (.ref f) [.ref x, b]) (fun v s' => ∃ c, v = .bool c ∧ Q (.done (.ret (.bool (!c)))) s') E s) :
    wpAny (model prog w) A (Builtin.«object.__ne__» ⟨[.ref x, b], []⟩) Q E s := by
  unfold Builtin.«object.__ne__»
  repeat (first
    | with_reducible refine wpAny_cRoomFor hu ?_
    | (refine wpAny_bind (m := callSpecialIfBound? (.ref x) (Str.ofString "__eq__") [b])
        (PySem.W.ifBound_K X I hs hf (wpAny_mono hcall (fun r s' hr => by
          obtain ⟨c, rfl, hq⟩ := hr
          repeat (first | exact hq | exact wpAny_pure hq | exact wpAny_truthy_bool hq | (refine wpAny_bind (m := truthy (.bool _)) (wpAny_truthy_bool ?_)) | wp_step)) fun _ _ e => e)))
    | wp_step)
theorem ifBound_slot {M : Model} {name : Str} {id : String} {args : List Value} {Q : Option Value → Shared → Prop} (S : PySem.Slot "object" name id) (X : K.In s.heap) (I : PySem.W.InstAt s.heap x ox C od) (hs : PySem.W.findIn K (.ref C) name = some (some (.builtin id)))
    (h : wpAny M A (call (.builtin id) (.ref x :: args)) (fun v => Q (some v)) E s) : wpAny M A (callSpecialIfBound? (.ref x) name args) Q E s := by
  simp only [callSpecialIfBound?, bindSpecialIfBound?]
  refine wpAny_holding (wpAny_bind (wpAny_bind (wpAny_bind (I.type.here ((PySem.W.looks_findIn X hs).here ?_)))))
  simp only [S.bind]
  refine wpAny_bind (wpAny_askSetting (wpAny_ite ?_))
  have fin : wpAny M A (call (.builtin id) ([.ref x] ++ args) >>= fun v => pure (some v)) Q E s := wpAny_bind (wpAny_mono h (fun v s' h' => wpAny_pure h') fun _ _ h' => h')
  split
  · exact wpAny_bind (wpAny_pure (wpAny_pure fin))
  · exact wpAny_tryCatch (wpAny_bind (wpAny_pure (wpAny_pure fin)))
theorem ne_K {Q : Value → Shared → Prop} (hu : A.units + 1 < cLine) (X : K.In s.heap) (I : PySem.W.InstAt s.heap x ox C od) (hb : PySem.W.Looks (model prog w) s.heap (typeOf b) tb) (hn : PySem.W.notFirst K C tb = true)
    (hN : PySem.W.findIn K (.ref C) "__ne__" = some (some (.builtin "object.__ne__"))) (hO : PySem.W.subIn K (.ref C) (.type "object") = some true)
    (hs : PySem.W.findIn K (.ref C) "__eq__" = some (some (.ref f))) (hf : PySem.W.isFn K (.ref f) = true)
    (h : wpAny (model prog w) A.in1 (call (.ref f) [.ref x, b]) (fun v s' => ∃ c, v = .bool c ∧ Q (.bool (!c)) s') E s) : wpAny (model prog w) A (richCompare .NotEq (.ref x) b) Q E s := by
  have one : wpAny (model prog w) A (tryCompare (.ref x) "__ne__" b) (fun r s' => ∃ v, r = some v ∧ Q v s') E s := by
    unfold tryCompare
    refine wpAny_bind (ifBound_slot PySem.F.cmp_object.ne X I hN (wpAny_call (codeAny_call_builtin PySem.F.cmp_object.ne.plain PySem.F.cmpEntry_ne
      (PySem.W.check_slot PySem.F.cmpKind_ne PySem.F.cmpSplit_ne (I.type.andThen (PySem.W.looks_subIn X hO)) (PySem.F.cmpArgs_ne _ _)
        (objNe_entry (A := A.in1) hu X I hs hf (wpAny_mono h (fun v s' hv => ?_) fun _ _ e => e))))))
    obtain ⟨c, rfl, hq⟩ := hv
    first | exact ⟨c, rfl, wpAny_pure ⟨_, rfl, hq⟩⟩ | exact ⟨c, rfl, ⟨_, rfl, hq⟩⟩
  unfold richCompare
  simp only [oneThing_ref]
  refine wpAny_holding (wpAny_bind (wpAny_cRoomFor (Nat.lt_of_succ_lt hu) ?_))
  rw [cmpInfo_NotEq]
  dsimp only
  refine wpAny_bind (I.type.here (wpAny_bind (hb.here ?_)))
  split
  · rename_i q
    have e : PySem.W.subIn K tb (.ref C) = some false := by
      rcases Bool.or_eq_true_iff.mp hn with e | e
      · rw [beq_iff_eq.mp e] at q; simp at q
      · exact beq_iff_eq.mp e
    refine wpAny_bind ((PySem.W.looks_subIn X e).here ?_)
    simp only [Bool.false_eq_true, if_false]
    refine wpAny_bind (wpAny_mono one (fun r s' z => ?_) fun _ _ e => e)
    obtain ⟨v, rfl, hq⟩ := z
    exact wpAny_pure hq
  · refine wpAny_bind (wpAny_pure ?_)
    simp only [Bool.false_eq_true, if_false]
    refine wpAny_bind (wpAny_mono one (fun r s' z => ?_) fun _ _ e => e)
    obtain ⟨v, rfl, hq⟩ := z
    exact wpAny_pure hq
end
section
variable {X : Cx}
/-- k + x, k - x: k an int, x of the class C -/
theorem op_reflAdd {C : Addr} {k j j0 : Nat} {sp sp0 : Sp} (O0 : Om X.prog X.w X.K X.mg X.base C j0 (dunder "add") sp0) (O : Om X.prog X.w X.K X.mg X.base C j (dunderR "add") sp) (T : OpI X.K C "add") (hr : Room k X.A) (hjk : j ≤ k := by decide) : OpR X (binaryOp .Add) (rRefl C sp) := by
  intro pins s σ H x y v u Q I rx ry h
  obtain ⟨a, dx, fs, i, rfl, rfl, ha, q⟩ := h
  obtain ⟨f, fd, ps, F, hs, hf, hbd⟩ := O
  obtain ⟨f0, _, _, _, hs0, _, _⟩ := O0
  have rr : Vals [V.ref a, V.int i] [u, v] := .cons ry (.cons rx .nil)
  obtain ⟨t, rfl⟩ := (show ∃ t, v = Value.int i t from rx)
  cases (show u = Value.ref a from ry)
  obtain ⟨od, J⟩ := ins_at I ha
  exact refl_binop (op := .Add) I.kIn J T.sf hs0 hs hf T.s2 PySem.F.fills_int_add PySem.F.slot_int_add (add_no_call i t J.1) (om_run F hbd (hr.mono hjk) I rr q)
theorem op_reflSub {C : Addr} {k j j0 : Nat} {sp sp0 : Sp} (O0 : Om X.prog X.w X.K X.mg X.base C j0 (dunder "sub") sp0) (O : Om X.prog X.w X.K X.mg X.base C j (dunderR "sub") sp) (T : OpI X.K C "sub") (hr : Room k X.A) (hjk : j ≤ k := by decide) : OpR X (binaryOp .Sub) (rRefl C sp) := by
  intro pins s σ H x y v u Q I rx ry h
  obtain ⟨a, dx, fs, i, rfl, rfl, ha, q⟩ := h
  obtain ⟨f, fd, ps, F, hs, hf, hbd⟩ := O
  obtain ⟨f0, _, _, _, hs0, _, _⟩ := O0
  have rr : Vals [V.ref a, V.int i] [u, v] := .cons ry (.cons rx .nil)
  obtain ⟨t, rfl⟩ := (show ∃ t, v = Value.int i t from rx)
  cases (show u = Value.ref a from ry)
  obtain ⟨od, J⟩ := ins_at I ha
  exact refl_binop (op := .Sub) I.kIn J T.sf hs0 hs hf T.s2 PySem.F.fills_int_sub PySem.F.slot_int_sub (sub_no_call i t J.1) (om_run F hbd (hr.mono hjk) I rr q)
/-- -x, x of the class C -/
theorem un_own {C : Addr} {k j : Nat} {sp : Sp} (O : Om X.prog X.w X.K X.mg X.base C j "__neg__" sp) (hr : Room k X.A) (hjk : j ≤ k := by decide) : UnR X (unaryOp .USub) (fun x H Q => ∃ (a dx : Addr) (fs : List (Str × V)), x = .ref a ∧ H a = some (.ins C dx fs) ∧ sp [x] H Q E0) := by
  intro pins s σ H x v Q I rx h
  obtain ⟨a, dx, fs, rfl, ha, q⟩ := h
  obtain ⟨f, fd, ps, F, hs, hf, hbd⟩ := O
  cases (show v = Value.ref a from rx)
  obtain ⟨od, J⟩ := ins_at I ha
  obtain ⟨m, hF⟩ := I.fr
  exact PySem.W.ksp_neg hF I.ok.mod.kin J hs hf (run_fn (vs := [.ref a]) F (hr.mono hjk) hbd .nil pass0 I (.cons rx .nil) (by rw [List.append_nil]; exact q))
/-- what != asks of the class -/
structure NeC (K : PySem.W.Frag) (C : Addr) : Prop where
  ne : PySem.W.findIn K (.ref C) "__ne__" = some (some (.builtin "object.__ne__"))
  ob : PySem.W.subIn K (.ref C) (.type "object") = some true
/-- x != y, x of the class C with its own ==, no != -/
def rNeOwn (K : PySem.W.Frag) (C : Addr) (sp : Sp) : R2 := fun x y H Q => ∃ (a dx : Addr) (fs : List (Str × V)) (t : Value), x = .ref a ∧ H a = some (.ins C dx fs) ∧ TyOf K H y t ∧ PySem.W.notFirst K C t = true ∧ sp [x, y] H (fun z H' => ∃ c, z = .bl c ∧ Q (.bl (!c)) H') E0
theorem op_neOwn {C : Addr} {k j : Nat} {sp : Sp} (O : Om X.prog X.w X.K X.mg X.base C j "__eq__" sp) (N : NeC X.K C) (hr : Room k X.A) (hjk : j + 1 ≤ k := by decide) : OpR X (compareOp .NotEq) (rNeOwn X.K C sp) := by
  intro pins s σ H x y v u Q I rx ry h
  obtain ⟨a, dx, fs, t, rfl, ha, ty, hn, q⟩ := h
  obtain ⟨f, fd, ps, F, hs, hf, hbd⟩ := O
  have rr : Vals [V.ref a, y] [v, u] := .cons rx (.cons ry .nil)
  cases (show v = Value.ref a from rx)
  obtain ⟨od, J⟩ := ins_at I ha
  show wpAny (model X.prog X.w) X.A (richCompare .NotEq (.ref a) u) (EP X pins σ Q) X.xe s
  have hr1 : Room (j + 1) X.A := hr.mono hjk
  refine ne_K (by have := hr.un; omega) I.kIn J (ty_looks I ry ty) hn N.ne N.ob hs hf ?_
  have R := FnOk.raw F hbd .nil
  refine wpAny_mono (wpAny_call (SlX.run_at (us := [.ref a, u]) (ws := [.ref a, y]) R hr1.in1 I.env0.in1 pass0 I rr (by rw [List.append_nil]; exact q))) (fun z s' hz => ?_) fun _ _ e => e
  obtain ⟨z', H', I', rz, c, ec, qc⟩ := hz
  subst ec
  cases (show z = Value.bool c from rz)
  exact ⟨c, rfl, .bl (!c), H', I', rfl, qc⟩
end
end Z

set_option maxHeartbeats 4000000
namespace Z
open PySem PySem.Spec PyProof.Rows L2
/-! ### sums and places as objects -/
theorem look_hd {f : Str} {v : V} {r : List (Str × V)} : List.lookup f ((f, v) :: r) = some v := by simp [List.lookup]
theorem look_tl {f g : Str} {v : V} {r : List (Str × V)} (h : ¬ f = g) : List.lookup f ((g, v) :: r) = List.lookup f r := by
  have e : (f == g) = false := by simpa using h
  simp [List.lookup, e]
theorem at_upd {H : Hp} {t l : Addr} {u : HO} (o : HO) (h : H t = some u) (hl : H l = none) : (upd H l o) t = some u := by
  rw [upd_ne (ne_of_none h hl)]
  exact h
theorem Same.keep {H H1 H' : Hp} {a : Addr} {o : HO} (s : Same H H1) (ha : H1 a = none) (kp : Keep a (upd H1 a o) H') : Same H H' := fun b u e => by
  have q := s b u e
  have nb : b ≠ a := ne_of_none q ha
  exact kp b u nb (by rw [upd_ne nb]; exact q)
/-- behind a new instance -/
theorem Same.made {H H1 H' : Hp} {x dx C : Addr} (s : Same H H1) (nx : H1 x = none) (nd : H1 dx = none) (kp : Keep x (upd (upd H1 dx (.own x)) x (.ins C dx [])) H') : Same H H' := fun b u e => by
  have q := s b u e
  have nb : b ≠ x := ne_of_none q nx
  have nd' : b ≠ dx := ne_of_none q nd
  exact kp b u nb (by rw [upd_ne nb, upd_ne nd']; exact q)
theorem in_ : ¬ (("i" : Str) = "n") := by decide +kernel
theorem io_ : ¬ (("i" : Str) = "one") := by decide +kernel
theorem no_ : ¬ (("n" : Str) = "one") := by decide +kernel
theorem sd_ : ¬ (("straight" : Str) = "divisor") := by decide +kernel
theorem len1 (f : Str) (v : V) : (putF f v []).length < 1000 := Nat.lt_of_le_of_lt (length_putF f v []) (by decide)
theorem len2 (f g : Str) (v u : V) : (putF f v (putF g u [])).length < 1000 := Nat.lt_of_le_of_lt (Nat.le_trans (length_putF f v _) (Nat.add_le_add_right (length_putF g u []) 1)) (by decide)
def sf (a b c : Int) : List (Str × V) := putF "one" (.int c) (putF "n" (.int b) (putF "i" (.int a) []))
theorem sf_i (a b c : Int) : (sf a b c).lookup ("i" : Str) = some (.int a) := by
  unfold sf
  rw [lookup_putF, if_neg io_, lookup_putF, if_neg in_, lookup_putF, if_pos rfl]
theorem sf_n (a b c : Int) : (sf a b c).lookup ("n" : Str) = some (.int b) := by
  unfold sf
  rw [lookup_putF, if_neg no_, lookup_putF, if_pos rfl]
theorem sf_one (a b c : Int) : (sf a b c).lookup ("one" : Str) = some (.int c) := by
  unfold sf
  rw [lookup_putF, if_pos rfl]
theorem sf_no (a b c : Int) {m : Str} (h1 : ¬ m = "i") (h2 : ¬ m = "n") (h3 : ¬ m = "one") : (sf a b c).lookup m = none := by
  unfold sf
  rw [lookup_putF, if_neg h3, lookup_putF, if_neg h2, lookup_putF, if_neg h1]
  rfl
def pf (q : Addr) (d : Int) : List (Str × V) := putF "divisor" (.int d) (putF "straight" (.ref q) [])
theorem pf_s (q : Addr) (d : Int) : (pf q d).lookup ("straight" : Str) = some (.ref q) := by
  unfold pf
  rw [lookup_putF, if_neg sd_, lookup_putF, if_pos rfl]
theorem pf_d (q : Addr) (d : Int) : (pf q d).lookup ("divisor" : Str) = some (.int d) := by
  unfold pf
  rw [lookup_putF, if_pos rfl]
theorem pf_no (q : Addr) (d : Int) {m : Str} (h1 : ¬ m = "straight") (h2 : ¬ m = "divisor") : (pf q d).lookup m = none := by
  unfold pf
  rw [lookup_putF, if_neg h2, lookup_putF, if_neg h1]
  rfl
section
variable (K : PySem.W.Frag)
abbrev CS : Addr := He.ga K "Straight"
abbrev CP : Addr := He.ga K "Place"
def StrAt (H : Hp) (p : Addr) (a b c : Int) : Prop := ∃ dx, H p = some (.ins (CS K) dx (sf a b c))
def PlcAt (H : Hp) (p : Addr) (a b c d : Int) : Prop := ∃ dx q, H p = some (.ins (CP K) dx (pf q d)) ∧ StrAt K H q a b c
/-- a sum, or an int in its place -/
def SumV (H : Hp) (v : V) (a b c : Int) : Prop := (∃ p, v = .ref p ∧ StrAt K H p a b c) ∨ (v = .int c ∧ a = 0 ∧ b = 0)
end
variable {K : PySem.W.Frag}
theorem StrAt.same {H H' : Hp} {p : Addr} {a b c : Int} (h : StrAt K H p a b c) (s : Same H H') : StrAt K H' p a b c := by
  obtain ⟨dx, h⟩ := h
  exact ⟨dx, s _ _ h⟩
theorem PlcAt.same {H H' : Hp} {p : Addr} {a b c d : Int} (h : PlcAt K H p a b c d) (s : Same H H') : PlcAt K H' p a b c d := by
  obtain ⟨dx, q, h, h2⟩ := h
  exact ⟨dx, q, s _ _ h, h2.same s⟩
theorem SumV.same {H H' : Hp} {v : V} {a b c : Int} (h : SumV K H v a b c) (s : Same H H') : SumV K H' v a b c := by
  rcases h with ⟨p, e, h⟩ | h
  · exact .inl ⟨p, e, h.same s⟩
  · exact .inr h
theorem StrAt.keep {H H' : Hp} {p q : Addr} {a b c : Int} {t : Nat} (h : StrAt K H p a b c) (hp : Pen H q t) (k : Keep q H H') : StrAt K H' p a b c := by
  obtain ⟨dx, h⟩ := h
  exact ⟨dx, k _ _ (hp.ne h fun _ z => by cases z) h⟩
theorem PlcAt.keep {H H' : Hp} {p q : Addr} {a b c d : Int} {t : Nat} (h : PlcAt K H p a b c d) (hp : Pen H q t) (k : Keep q H H') : PlcAt K H' p a b c d := by
  obtain ⟨dx, r, h, h2⟩ := h
  exact ⟨dx, r, k _ _ (hp.ne h fun _ z => by cases z) h, h2.keep hp k⟩
/-- small enough to be multiplied by anything -/
def Sm (i : Int) : Prop := -(2 ^ 64) < i ∧ i < 2 ^ 64
/-! ### what the program's text says of the classes -/
structure Inx (K : PySem.W.Frag) (C : Addr) : Prop where
  ha : PySem.W.findIn K (.ref C) "__class__" = some (some (.builtin "object.__class__"))
  hn : PySem.W.specialIn K (.builtin "object.__class__") "__get__" = some (some (.builtin "getset_descriptor.__get__"))
  ht : PySem.W.takesIn K (.builtin "object.__class__") = some true
  hm : PySem.W.mroIn K C (.type "object") = some true
structure StTx (K : PySem.W.Frag) (mg : Str → Option Value) : Prop where
  gS : mg "Straight" = some (.ref (CS K))
  clS : Cls K (CS K)
  mkS : Mk K (CS K) (He.ma K (CS K) "__init__")
  ixS : Inx K (CS K)
  nI : NoAttr K (CS K) "i"
  nN : NoAttr K (CS K) "n"
  nO : NoAttr K (CS K) "one"
  kSi : PySem.W.kitOne K (.ref (CS K)) (.type "int") = some false
  kSS : PySem.W.kitOne K (.ref (CS K)) (.ref (CS K)) = some true
  kiS : PySem.W.kitOne K (.type "int") (.ref (CS K)) = some false
  isi : mg "isinstance" = none
  int : mg "int" = none
  bool : mg "bool" = none
theorem StTx.ty {mg : Str → Option Value} (T : StTx K mg) {H : Hp} {p : Addr} {a b c : Int} (h : StrAt K H p a b c) : TyOf K H (.ref p) (.ref (CS K)) := by
  obtain ⟨dx, h⟩ := h
  exact .ins h T.clS T.ixS.ha T.ixS.hn T.ixS.ht T.ixS.hm
theorem kii {K : PySem.W.Frag} : PySem.W.kitOne K (.type "int") (.type "int") = some true := kit_ty (by decide +kernel)
theorem kib {K : PySem.W.Frag} : PySem.W.kitOne K (.type "int") (.type "bool") = some false := kit_ty (by decide +kernel)
/-! ### promises -/
section
variable (K : PySem.W.Frag)
def spSI : Sp := fun vs H Q _ => ∃ (p dx : Addr) (a b c : Int), vs = [.ref p, .int a, .int b, .int c] ∧ H p = some (.ins (CS K) dx []) ∧ ∀ H', H' p = some (.ins (CS K) dx (sf a b c)) → Keep p H H' → Q .non H'
/-- a new sum is handed back -/
def NewS (H : Hp) (a b c : Int) (Q : VK) : Prop := ∀ p H', Same H H' → H p = none → StrAt K H' p a b c → Q (.ref p) H'
def spIsInt : Sp := fun vs H Q _ => ∃ v, vs = [v] ∧ ((∃ i, v = .int i ∧ Q (.bl true) H) ∨ ∃ p a b c, v = .ref p ∧ StrAt K H p a b c ∧ Q (.bl false) H)
def spIsStr : Sp := fun vs H Q _ => ∃ v a b c, vs = [v] ∧ SumV K H v a b c ∧ Q (.bl true) H
def spLike : Sp := fun vs H Q _ => ∃ v a b c, vs = [v] ∧ SumV K H v a b c ∧ ∀ p H', Same H H' → StrAt K H' p a b c → Q (.ref p) H'
def spVal : Sp := fun vs H Q _ => ∃ (p : Addr) (a b c i n : Int), vs = [.ref p, .int i, .int n] ∧ StrAt K H p a b c ∧ Sm a ∧ Sm b ∧ Q (.int (a * i + b * n + c)) H
def spAdded : Sp := fun vs H Q _ => ∃ (p q : Addr) (a b c x y z s : Int), vs = [.ref p, .ref q, .int s] ∧ StrAt K H p a b c ∧ StrAt K H q x y z ∧ Sm s ∧ NewS K H (a + s * x) (b + s * y) (c + s * z) Q
def spRepl : Sp := fun vs H Q _ => ∃ (p : Addr) (a b c f g : Int), vs = [.ref p, .int f, .int g] ∧ StrAt K H p a b c ∧ Sm a ∧ NewS K H (a * f) b (c + a * g) Q
def spSEq : Sp := fun vs H Q _ => ∃ (p : Addr) (a b c : Int) (v : V), vs = [.ref p, v] ∧ StrAt K H p a b c ∧ ((∃ q x y z, v = .ref q ∧ StrAt K H q x y z ∧ Q (.bl (decide (a = x ∧ b = y ∧ c = z))) H) ∨
  ∃ t, TyOf K H v t ∧ PySem.W.kitOne K t (.ref (CS K)) = some false ∧ Q (.bl false) H)
def spSAdd : Sp := fun vs H Q _ => ∃ (p : Addr) (a b c x y z : Int) (v : V), vs = [.ref p, v] ∧ StrAt K H p a b c ∧ SumV K H v x y z ∧ ∀ q H', Same H H' → StrAt K H' q (a + x) (b + y) (c + z) → Q (.ref q) H'
def spSMul : Sp := fun vs H Q _ => ∃ (p : Addr) (a b c k : Int), vs = [.ref p, .int k] ∧ StrAt K H p a b c ∧ (Sm k ∨ Sm a ∧ Sm b ∧ Sm c) ∧ NewS K H (a * k) (b * k) (c * k) Q
end
end Z

set_option maxHeartbeats 4000000
namespace Z
open PySem PySem.Spec PyProof.Rows L2
/-! ### numbers of so many bits -/
def Bd (n : Nat) (x : Int) : Prop := x.natAbs < 2 ^ n
theorem Bd.mono {n m : Nat} {x : Int} (h : Bd n x) (e : n ≤ m) : Bd m x := Nat.lt_of_lt_of_le h (Nat.pow_le_pow_right (by decide) e)
theorem Bd.mul {n m : Nat} {x y : Int} (h : Bd n x) (g : Bd m y) : Bd (n + m) (x * y) := by
  unfold Bd at *
  rw [Int.natAbs_mul, Nat.pow_add]
  exact Nat.mul_lt_mul'' h g
theorem Bd.add {n : Nat} {x y : Int} (h : Bd n x) (g : Bd n y) : Bd (n + 1) (x + y) := by
  unfold Bd at *
  rw [Nat.pow_succ]
  omega
theorem Bd.sub {n : Nat} {x y : Int} (h : Bd n x) (g : Bd n y) : Bd (n + 1) (x - y) := by
  unfold Bd at *
  rw [Nat.pow_succ]
  omega
theorem Bd.neg {n : Nat} {x : Int} (h : Bd n x) : Bd n (-x) := by
  unfold Bd at *
  omega
theorem Bd.of {n : Nat} {x : Int} (N : Nat) (hN : N < 2 ^ n) (h1 : -(N : Int) ≤ x) (h2 : x ≤ (N : Int)) : Bd n x := by
  unfold Bd
  omega
theorem bd_c {n m : Nat} {x y : Int} (h : Bd n x) (g : Bd m y) (h0 : 0 < n := by decide) (h1 : 0 < m := by decide) (e : n + m ≤ 1000000 := by decide) : CMulW x y := wide_mul h g h0 h1 e
section
variable (K : PySem.W.Frag)
def spValW : Sp := fun vs H Q _ => ∃ (p : Addr) (a b c i n : Int), vs = [.ref p, .int i, .int n] ∧ StrAt K H p a b c ∧ Bd 400 a ∧ Bd 400 b ∧ Bd 400 i ∧ Bd 400 n ∧ Q (.int (a * i + b * n + c)) H
def spReplW : Sp := fun vs H Q _ => ∃ (p : Addr) (a b c f g : Int), vs = [.ref p, .int f, .int g] ∧ StrAt K H p a b c ∧ Bd 400 a ∧ Bd 400 f ∧ Bd 400 g ∧ NewS K H (a * f) b (c + a * g) Q
def spSMulW : Sp := fun vs H Q _ => ∃ (p : Addr) (a b c k : Int), vs = [.ref p, .int k] ∧ StrAt K H p a b c ∧ Bd 400 k ∧ Bd 400 a ∧ Bd 400 b ∧ Bd 400 c ∧ NewS K H (a * k) (b * k) (c * k) Q
def spSNeg : Sp := fun vs H Q _ => ∃ (p : Addr) (a b c : Int), vs = [.ref p] ∧ StrAt K H p a b c ∧ NewS K H (-a) (-b) (-c) Q
/-- a new sum, or the old one -/
def GotS (H : Hp) (a b c : Int) (Q : VK) : Prop := ∀ q H', Same H H' → StrAt K H' q a b c → Q (.ref q) H'
def spSSub : Sp := fun vs H Q _ => ∃ (p : Addr) (a b c x y z : Int) (v : V), vs = [.ref p, v] ∧ StrAt K H p a b c ∧ SumV K H v x y z ∧ GotS K H (a - x) (b - y) (c - z) Q
def spSRadd : Sp := fun vs H Q _ => ∃ (p : Addr) (a b c x y z : Int) (v : V), vs = [.ref p, v] ∧ StrAt K H p a b c ∧ SumV K H v x y z ∧ GotS K H (x + a) (y + b) (z + c) Q
def spSRsub : Sp := fun vs H Q _ => ∃ (p : Addr) (a b c x y z : Int) (v : V), vs = [.ref p, v] ∧ StrAt K H p a b c ∧ SumV K H v x y z ∧ GotS K H (x - a) (y - b) (z - c) Q
end
end Z

set_option maxHeartbeats 4000000
namespace Z
open PySem PySem.Spec PyProof.Rows L2
/-! ### an own class whose making may raise -/
section
variable {X : Cx} {CX : CXT} {k : Nat} {f C : Addr} {fd : FuncData} {ps : List Str} {sp : Sp} {E : XK}
theorem make_at {pins : List (Addr × Obj)} {σ : L2.St} {H : Hp} {s : Shared} {Q : VK} {us : List Value} {vs : List V} (M : Mk X.K C f) (F : FnOk X.prog X.w X.K X.mg X.base CX k f fd ps sp) (hr : Room (k + 1) X.A) (hb : Binds X.K fd ps [])
    (hx : PassesAt CX X σ E) (I : L2.Inv X pins σ H s) (r : Vals vs us)
    (h : ∀ x dx, H x = none → H dx = none → dx ≠ x → sp (.ref x :: vs) (upd (upd H dx (.own x)) x (.ins C dx [])) (fun v H2 => v = .non ∧ Q (.ref x) H2) E) :
    wpAny (model X.prog X.w) X.A (call (.ref C) us) (EP X pins σ Q) X.xe s := by
  have q0 := h (s.heap.objs.size + 1) s.heap.objs.size (I.hok.fresh (Nat.le_succ _)) (I.hok.fresh (Nat.le_refl _)) (Nat.ne_of_lt (Nat.lt_succ_self _))
  have J := Inv.made (C := C) I
  have rr : Vals (V.ref (s.heap.objs.size + 1) :: vs) (Value.ref (s.heap.objs.size + 1) :: us) := .cons rfl r
  have len : (Value.ref (s.heap.objs.size + 1) :: us).length = ps.length := by
    have e := rr.length
    rw [F.len _ _ _ _ q0] at e
    exact e.symm
  have bb := hb _ (Value.ref (s.heap.objs.size + 1) :: us) J.kIn (by rw [List.append_nil]; exact len)
  rw [List.append_nil] at bb
  refine wpAny_call (make_map (f := f) I.kIn M.makes M.init (beq_iff_eq.mp M.fn) (codeAny_mono (F.run _ X.stack _ _ ⟨Value.ref (s.heap.objs.size + 1) :: us, []⟩ (Value.ref (s.heap.objs.size + 1) :: us) _ _ E (hr.make C us [])
    (J.env0.make C us []) bb rr q0) fun r' s' z => ?_))
  cases r' with
  | error e => exact hx pins _ _ e s' J z
  | ok fl =>
    cases fl with
    | ret u =>
      obtain ⟨v, H', I3, rv, ev, q3⟩ := J.after z
      subst ev
      exact ⟨rv, ⟨V.ref (s.heap.objs.size + 1), H', I3, rfl, q3⟩⟩
    | next => exact False.elim z
    | brk => exact False.elim z
    | cont => exact False.elim z
theorem at_E0 (σ : L2.St) : PassesAt (L2.CX X.prog X.w) X σ E0 := fun pins H s e s' I h => passL pins σ H s e s' I h
end
/-! ### an error's own __init__, its dict new -/
def spErr (K : PySem.W.Frag) (x : Str) (fs : List Str) : Sp := fun vs H Q _ => ∃ (a : Addr) (ws : List V), vs = .ref a :: ws ∧ ws.length = fs.length ∧ H a = some (exo a (He.ga K x) none) ∧
  ∀ (d : Addr) (H' : Hp), H d = none → H' a = some (exo a (He.ga K x) (some d)) → H' d = some (exd d (fs.zip ws).reverse) → Keep a H H' → Q .non H'
structure EC (K : PySem.W.Frag) (mg : Str → Option Value) (x : Str) (fs : List Str) : Prop where
  gC : mg x = some (.ref (He.ga K x))
  ox : OexC K (He.ga K x)
  ex : Exk K (He.ga K x)
  iC : PySem.W.findIn K (.ref (He.ga K x)) "__init__" = some (some (.ref (He.ma K (He.ga K x) "__init__")))
  tI : PySem.W.typeIn K (.ref (He.ma K (He.ga K x) "__init__")) = some (.type "function")
  na : ∀ f ∈ fs, PySem.W.findIn K (.ref (He.ga K x)) f = some none
theorem list2 {ws : List V} (h : ws.length = 2) : ∃ y z, ws = [y, z] := match ws, h with | [y, z], _ => ⟨y, z, rfl⟩
theorem list1 {ws : List V} (h : ws.length = 1) : ∃ y, ws = [y] := match ws, h with | [y], _ => ⟨y, rfl⟩
theorem list3 {ws : List V} (h : ws.length = 3) : ∃ y z u, ws = [y, z, u] := match ws, h with | [y, z, u], _ => ⟨y, z, u, rfl⟩
section
variable {K : PySem.W.Frag} {mg : Str → Option Value} {x f1 f2 f3 n0 n1 n2 n3 : Str} {vs : List V} {H : Hp} {Q : VK} {E : XK}
theorem keep1 {a d : Addr} {o u : HO} (hd : H d = none) : Keep a H (upd (upd H d o) a u) := Keep.upd _ (Keep.new _ (Keep.refl a H) hd)
theorem rd_err1 (M : EC K mg x [f1]) (h : spErr K x [f1] vs H Q E) :
    tOst K f1 (tVar 0) (tVar 1) { nx := fun _ H' => Q .non H', rt := Q } (L2.start [n0, n1] vs) H := by
  obtain ⟨a, ws, rfl, hl, ha, k⟩ := h
  obtain ⟨y, rfl⟩ := list1 hl
  refine ⟨_, rfl, _, rfl, a, _, rfl, M.ox, M.na _ (by simp), .inl ⟨ha, fun d hd nd => ?_⟩⟩
  exact k d _ hd upd_same (by rw [upd_ne nd, upd_same]; rfl) (keep1 hd)
theorem rd_err2 (M : EC K mg x [f1, f2]) (h : spErr K x [f1, f2] vs H Q E) :
    tSeq (tOst K f1 (tVar 0) (tVar 1)) (tOst K f2 (tVar 0) (tVar 2)) { nx := fun _ H' => Q .non H', rt := Q } (L2.start [n0, n1, n2] vs) H := by
  obtain ⟨a, ws, rfl, hl, ha, k⟩ := h
  obtain ⟨y, z, rfl⟩ := list2 hl
  refine ⟨_, rfl, _, rfl, a, _, rfl, M.ox, M.na _ (by simp), .inl ⟨ha, fun d hd nd => ?_⟩⟩
  refine ⟨_, rfl, _, rfl, a, _, rfl, M.ox, M.na _ (by simp), .inr ⟨d, [(f1, y)], upd_same, (by rw [upd_ne nd, upd_same]), (by show 1 ≤ 900; decide), ?_⟩⟩
  refine k d _ hd (by rw [upd_ne nd.symm, upd_same]) upd_same fun b u nb e => ?_
  rw [upd_ne (ne_of_none e hd)]
  exact keep1 hd b u nb e
theorem rd_err3 (M : EC K mg x [f1, f2, f3]) (h : spErr K x [f1, f2, f3] vs H Q E) :
    tSeq (tOst K f1 (tVar 0) (tVar 1)) (tSeq (tOst K f2 (tVar 0) (tVar 2)) (tOst K f3 (tVar 0) (tVar 3))) { nx := fun _ H' => Q .non H', rt := Q } (L2.start [n0, n1, n2, n3] vs) H := by
  obtain ⟨a, ws, rfl, hl, ha, k⟩ := h
  obtain ⟨y, z, u, rfl⟩ := list3 hl
  refine ⟨_, rfl, _, rfl, a, _, rfl, M.ox, M.na _ (by simp), .inl ⟨ha, fun d hd nd => ?_⟩⟩
  refine ⟨_, rfl, _, rfl, a, _, rfl, M.ox, M.na _ (by simp), .inr ⟨d, [(f1, y)], upd_same, (by rw [upd_ne nd, upd_same]), (by show 1 ≤ 900; decide), ?_⟩⟩
  refine ⟨_, rfl, _, rfl, a, _, rfl, M.ox, M.na _ (by simp), .inr ⟨d, [(f2, z), (f1, y)], (by rw [upd_ne nd.symm, upd_same]), upd_same, (by show 2 ≤ 900; decide), ?_⟩⟩
  refine k d _ hd (by rw [upd_ne nd.symm, upd_ne nd.symm, upd_same]) upd_same fun b v nb e => ?_
  rw [upd_ne (ne_of_none e hd), upd_ne (ne_of_none e hd)]
  exact keep1 hd b v nb e
end
/-- an error class that may be raised -/
def Mx (P : Program) (w : World) (K : PySem.W.Frag) (mg : Str → Option Value) (base : Heap) (x : Str) (ps fs : List Str) : Prop :=
  EC K mg x fs ∧ ∃ fd, FnOk P w K mg base CX0 1 (He.ma K (He.ga K x) "__init__") fd ps (spErr K x fs) ∧ Binds K fd ps []
section
variable {X : Cx} {e : Expr} {es : List Expr} {t : TA} {p pos pos2 : Pos} {W : WX}
theorem pmk_err {k : Nat} {x : Str} {ps fs : List Str} (M : Mx X.prog X.w X.K X.mg X.base x ps fs) (hr : Room k X.A) (ha : PA X (e :: es) t) (hk : 2 ≤ k := by decide) (hg : Gl X x := by rfl)
    (hdb : (x == ("__debug__" : Str)) = false := by decide) (he : starEach (e :: es) X.env = (false, eval e X.env) :: starEach es X.env := by rfl) (hpl : (backTo pos (starEach es X.env)).any (·.1) = false := by rfl) :
    PMk X (.Call (.Name x p) (e :: es) [] pos) (tMkO (He.ga X.K x) (spErr X.K x fs) [] t) := by
  obtain ⟨T, fd, F, hb⟩ := M
  exact pmk_oex (CX := CX0) (dvs := []) (ds := []) T.ox T.iC T.tI F (hr.mono hk) hb .nil pass0 hg T.gC ha hdb he hpl
/-- the reading of such a raise behind its arguments: the new dict holds the fields, all else is as it was -/
theorem err_go {K : PySem.W.Frag} {x : Str} {fs : List Str} {vs : List V} {H1 : Hp} {Q : XK} (hl : vs.length ≤ 1000) (hlf : vs.length = fs.length)
    (w : ∀ d H', Same H1 H' → H' d = some (.xd (fs.zip vs).reverse) → Q (.ref (He.ga K x)) (some d) H') :
    vs.length ≤ 1000 ∧ ∀ a, H1 a = none → spErr K x fs (.ref a :: (vs ++ [])) (upd H1 a (exo a (He.ga K x) none))
      (fun v H2 => v = .non ∧ ∃ (d : Addr) (fs' : List (Str × V)), H2 a = some (exo a (He.ga K x) (some d)) ∧ H2 d = some (exd d fs') ∧ H1 d = none ∧ Q (.ref (He.ga K x)) (some d) (upd (del H2 a) d (.xd fs'))) (fun _ _ _ => False) := by
  refine ⟨hl, fun a ha => ?_⟩
  rw [List.append_nil]
  refine ⟨a, vs, rfl, hlf, upd_same, fun d H' hd hA hD kp => ⟨rfl, d, _, hA, hD, ?_, w d _ (fun b u e => ?_) upd_same⟩⟩
  · have n : d ≠ a := fun z => by
      rw [z, upd_same] at hd
      cases hd
    rw [upd_ne n] at hd
    exact hd
  · have nb : b ≠ a := ne_of_none e ha
    have nd : b ≠ d := fun z => by
      rw [← z, upd_ne nb] at hd
      rw [hd] at e
      cases e
    rw [upd_ne nd, del_ne nb]
    exact kp b u nb (by rw [upd_ne nb]; exact e)
end
/-! ### places -/
def gg (a b d : Int) : Nat := Nat.gcd (Nat.gcd a.natAbs b.natAbs) d.natAbs
abbrev CB (K : PySem.W.Frag) : Addr := He.ga K "BadNumber"
structure PlTx (K : PySem.W.Frag) (mg : Str → Option Value) : Prop extends StTx K mg where
  gP : mg "Place" = some (.ref (CP K))
  clP : Cls K (CP K)
  mkP : Mk K (CP K) (He.ma K (CP K) "__init__")
  ixP : Inx K (CP K)
  nS : NoAttr K (CP K) "straight"
  nD : NoAttr K (CP K) "divisor"
  gcd : mg "gcd" = some (.builtin "math.gcd")
  kPP : PySem.W.kitOne K (.ref (CP K)) (.ref (CP K)) = some true
  kPS : PySem.W.kitOne K (.ref (CP K)) (.ref (CS K)) = some false
  kSP : PySem.W.kitOne K (.ref (CS K)) (.ref (CP K)) = some false
  kiP : PySem.W.kitOne K (.type "int") (.ref (CP K)) = some false
theorem PlTx.pty {K : PySem.W.Frag} {mg : Str → Option Value} (T : PlTx K mg) {H : Hp} {p : Addr} {a b c d : Int} (h : PlcAt K H p a b c d) : TyOf K H (.ref p) (.ref (CP K)) := by
  obtain ⟨dx, q, h, _⟩ := h
  exact .ins h T.clP T.ixP.ha T.ixP.hn T.ixP.ht T.ixP.hm
def bnF (w : Str) (v : V) : List (Str × V) := [("number", v), ("what", .str w)]
section
variable (K : PySem.W.Frag)
/-- the place that is made of a sum and a divisor -/
def NewP (H : Hp) (a b c d : Int) (Q : VK) : Prop := ∀ p H', Same H H' → PlcAt K H' p (a.fdiv (gg a b d)) (b.fdiv (gg a b d)) (c.fdiv (gg a b d)) (d.fdiv (gg a b d)) → Q (.ref p) H'
def BadN (H : Hp) (w : Str) (v : V) (E : XK) : Prop := ∀ e H', Same H H' → H' e = some (.xd (bnF w v)) → E (.ref (CB K)) (some e) H'
def spPI : Sp := fun vs H Q E => ∃ (p dx : Addr) (v : V) (a b c d : Int), vs = [.ref p, v, .int d] ∧ H p = some (.ins (CP K) dx []) ∧ SumV K H v a b c ∧ (d < 1 → BadN K H "divisor" (.int d) E) ∧
  (1 ≤ d → d < 1073741824 ∧ ∀ q H', H' p = some (.ins (CP K) dx (pf q (d.fdiv (gg a b d)))) → StrAt K H' q (a.fdiv (gg a b d)) (b.fdiv (gg a b d)) (c.fdiv (gg a b d)) → Keep p H H' → Q .non H')
/-- Place(v, d): what is asked of the arguments -/
def rPlc (v : V) (d : Int) (H : Hp) (Q : VK) (E : XK) : Prop := ∃ a b c, SumV K H v a b c ∧ (d < 1 → BadN K H "divisor" (.int d) E) ∧ (1 ≤ d → d < 1073741824 ∧ NewP K H a b c d Q)
def spFdiv : Sp := fun vs H Q E => ∃ (p : Addr) (a b c d : Int), vs = [.ref p, .int d] ∧ StrAt K H p a b c ∧ (d < 1 → BadN K H "divisor" (.int d) E) ∧ (1 ≤ d → d < 1073741824 ∧ NewP K H a b c d Q)
def spPCall : Sp := fun vs H Q _ => ∃ (p : Addr) (a b c d i n : Int), vs = [.ref p, .int i, .int n] ∧ PlcAt K H p a b c d ∧ Sm a ∧ Sm b ∧ 0 < d ∧ d < 1073741824 ∧ Q (.int ((a * i + b * n + c).fdiv d)) H
def spPEq : Sp := fun vs H Q _ => ∃ (p : Addr) (a b c d : Int) (v : V), vs = [.ref p, v] ∧ PlcAt K H p a b c d ∧ ((∃ q x y z u, v = .ref q ∧ PlcAt K H q x y z u ∧ Q (.bl (decide (a = x ∧ b = y ∧ c = z ∧ d = u))) H) ∨
  ∃ t, TyOf K H v t ∧ PySem.W.kitOne K t (.ref (CP K)) = some false ∧ Q (.bl false) H)
def spPRepl : Sp := fun vs H Q _ => ∃ (p : Addr) (a b c d f g : Int), vs = [.ref p, .int f, .int g] ∧ PlcAt K H p a b c d ∧ Sm a ∧ 1 ≤ d ∧ d < 1073741824 ∧ NewP K H (a * f) b (c + a * g) d Q
end
end Z

namespace Z
/-! ### the arithmetic of least forms -/
theorem fe {x g : Int} (h : 0 < g) : x.fdiv g = x / g := Int.fdiv_eq_ediv_of_nonneg _ (Int.le_of_lt h)
theorem gg_pos {a b d : Int} (h : 0 < d) : 0 < gg a b d := Nat.gcd_pos_of_pos_right _ (by omega)
theorem gg_le {a b d : Int} (h : 0 < d) : ((gg a b d : Nat) : Int) ≤ d := by
  have := Nat.le_of_dvd (by omega) (Nat.gcd_dvd_right (Nat.gcd a.natAbs b.natAbs) d.natAbs)
  show ((Nat.gcd (Nat.gcd a.natAbs b.natAbs) d.natAbs : Nat) : Int) ≤ d
  omega
theorem gg_dvd (a b d : Int) : ∃ a' b' d', a = (gg a b d : Int) * a' ∧ b = (gg a b d : Int) * b' ∧ d = (gg a b d : Int) * d' := by
  have h1 : ((gg a b d : Nat) : Int) ∣ a := Int.ofNat_dvd_left.mpr (Nat.dvd_trans (Nat.gcd_dvd_left _ _) (Nat.gcd_dvd_left _ _))
  have h2 : ((gg a b d : Nat) : Int) ∣ b := Int.ofNat_dvd_left.mpr (Nat.dvd_trans (Nat.gcd_dvd_left _ _) (Nat.gcd_dvd_right _ _))
  have h3 : ((gg a b d : Nat) : Int) ∣ d := Int.ofNat_dvd_left.mpr (Nat.gcd_dvd_right _ _)
  exact ⟨_, _, _, h1.choose_spec, h2.choose_spec, h3.choose_spec⟩
theorem fmul {g x : Int} (h : 0 < g) : (g * x).fdiv g = x := by
  rw [fe h]
  exact Int.mul_ediv_cancel_left _ (by omega)
theorem fdiv_bd {x M g : Int} (h : 0 < g) (hM : 0 ≤ M) (h1 : -M ≤ x) (h2 : x ≤ M) : -M ≤ x.fdiv g ∧ x.fdiv g ≤ M := by
  rw [fe h]
  have z : M ≤ M * g := by
    have := Int.mul_le_mul_of_nonneg_left (show (1 : Int) ≤ g by omega) hM
    omega
  have z2 : -M * g ≤ x := by
    rw [Int.neg_mul]
    omega
  refine ⟨Int.le_ediv_of_mul_le h z2, ?_⟩
  exact Int.ediv_le_of_le_mul h (by omega)
/-- the divisor of the least form is from 1 on and not above d -/
theorem dv_bd {a b d : Int} (h : 0 < d) : 1 ≤ d.fdiv (gg a b d) ∧ d.fdiv (gg a b d) ≤ d := by
  have g0 : (0 : Int) < (gg a b d : Nat) := by exact_mod_cast gg_pos h
  refine ⟨?_, (fdiv_bd g0 (Int.le_of_lt h) (by omega) (Int.le_refl d)).2⟩
  rw [fe g0]
  exact Int.le_ediv_of_mul_le g0 (by rw [Int.one_mul]; exact gg_le h)
/-- the value of the least form -/
theorem val_least {a b c d i n : Int} (h : 0 < d) : ((a.fdiv (gg a b d)) * i + (b.fdiv (gg a b d)) * n + c.fdiv (gg a b d)).fdiv (d.fdiv (gg a b d)) = (a * i + b * n + c).fdiv d := by
  have dv := dv_bd (a := a) (b := b) h
  obtain ⟨a', b', d', ha, hb, hd⟩ := gg_dvd a b d
  have g0 : (0 : Int) < (gg a b d : Nat) := by exact_mod_cast gg_pos h
  generalize ((gg a b d : Nat) : Int) = g at *
  have e1 : a.fdiv g = a' := by rw [ha]; exact fmul g0
  have e2 : b.fdiv g = b' := by rw [hb]; exact fmul g0
  have e3 : d.fdiv g = d' := by rw [hd]; exact fmul g0
  rw [e3] at dv
  rw [e1, e2, e3, fe (show 0 < d' by omega), fe g0, fe h]
  have e4 : a * i + b * n + c = c + g * (a' * i + b' * n) := by
    rw [ha, hb, Int.mul_add, Int.mul_assoc, Int.mul_assoc]
    omega
  have e5 : a' * i + b' * n + c / g = (c + g * (a' * i + b' * n)) / g := by
    rw [Int.add_mul_ediv_left _ _ (by omega)]
    omega
  rw [e4, e5, hd, Int.ediv_ediv_of_nonneg (Int.le_of_lt g0)]
/-- the least form of a least form with another counter -/
theorem least_moved {a b c d m s : Int} (h : 0 < d) :
    (a.fdiv (gg a b d) * m).fdiv (gg (a.fdiv (gg a b d) * m) (b.fdiv (gg a b d)) (d.fdiv (gg a b d))) = (a * m).fdiv (gg (a * m) b d) ∧
    (b.fdiv (gg a b d)).fdiv (gg (a.fdiv (gg a b d) * m) (b.fdiv (gg a b d)) (d.fdiv (gg a b d))) = b.fdiv (gg (a * m) b d) ∧
    (c.fdiv (gg a b d) + a.fdiv (gg a b d) * s).fdiv (gg (a.fdiv (gg a b d) * m) (b.fdiv (gg a b d)) (d.fdiv (gg a b d))) = (a * s + c).fdiv (gg (a * m) b d) ∧
    (d.fdiv (gg a b d)).fdiv (gg (a.fdiv (gg a b d) * m) (b.fdiv (gg a b d)) (d.fdiv (gg a b d))) = d.fdiv (gg (a * m) b d) := by
  have dv := dv_bd (a := a) (b := b) h
  obtain ⟨a', b', d', ha, hb, hd⟩ := gg_dvd a b d
  have gp := gg_pos (a := a) (b := b) h
  have g0 : (0 : Int) < (gg a b d : Nat) := by exact_mod_cast gp
  generalize hg : gg a b d = g at *
  have e1 : a.fdiv g = a' := by rw [ha]; exact fmul g0
  have e2 : b.fdiv g = b' := by rw [hb]; exact fmul g0
  have e3 : d.fdiv g = d' := by rw [hd]; exact fmul g0
  rw [e3] at dv
  rw [e1, e2, e3]
  have d0 : 0 < d' := by omega
  have p2 := gg_pos (a := a' * m) (b := b') d0
  have e4 : gg (a * m) b d = g * gg (a' * m) b' d' := by
    unfold gg
    rw [ha, hb, hd, Int.mul_assoc]
    simp only [Int.natAbs_mul, Int.natAbs_natCast, Nat.gcd_mul_left]
  rw [e4]
  generalize gg (a' * m) b' d' = k at *
  have k0 : (0 : Int) < (k : Nat) := by exact_mod_cast p2
  have gk : (0 : Int) < ((g * k : Nat) : Int) := by exact_mod_cast Nat.mul_pos gp p2
  rw [fe k0, fe k0, fe k0, fe k0, fe gk, fe gk, fe gk, fe gk, fe g0, Int.natCast_mul]
  refine ⟨?_, ?_, ?_, ?_⟩
  · rw [ha, Int.mul_assoc, Int.mul_ediv_mul_of_pos _ _ g0]
  · rw [hb, Int.mul_ediv_mul_of_pos _ _ g0]
  · have e5 : a * s + c = c + g * (a' * s) := by
      rw [ha, Int.mul_assoc]
      omega
    rw [e5, ← Int.ediv_ediv_of_nonneg (Int.le_of_lt g0), Int.add_mul_ediv_left _ _ (by omega)]
  · rw [hd, Int.mul_ediv_mul_of_pos _ _ g0]
end Z

set_option maxHeartbeats 4000000
namespace Z
open PySem PySem.Spec PyProof.Rows L2
/-! ### conditions -/
def g2 (a b : Int) : Nat := Nat.gcd a.natAbs b.natAbs
def lf3 (a b c : Int) : Int := if g2 a b = 0 then (if 0 ≤ c then 0 else -1) else c.fdiv (g2 a b)
theorem g2_le {a b : Int} {N : Nat} (ha : a.natAbs ≤ N) (hb : b.natAbs ≤ N) : g2 a b ≤ N := by
  unfold g2
  by_cases h : a.natAbs = 0
  · rw [h, Nat.gcd_zero_left]
    exact hb
  · exact Nat.le_trans (Nat.le_of_dvd (by omega) (Nat.gcd_dvd_left _ _)) ha
theorem g2_zero {a b : Int} (h : g2 a b = 0) : a = 0 ∧ b = 0 := by
  unfold g2 at h
  have h1 := Nat.eq_zero_of_gcd_eq_zero_left h
  have h2 := Nat.eq_zero_of_gcd_eq_zero_right h
  omega
/-- the least form tells the same -/
theorem least_form {a b c i n : Int} : decide (0 ≤ (a.fdiv (g2 a b)) * i + (b.fdiv (g2 a b)) * n + lf3 a b c) = decide (0 ≤ a * i + b * n + c) := by
  unfold lf3
  by_cases h : g2 a b = 0
  · obtain ⟨rfl, rfl⟩ := g2_zero h
    rw [if_pos h, Int.zero_fdiv, Int.zero_mul, Int.zero_mul]
    by_cases hc : 0 ≤ c
    · rw [if_pos hc]
      exact decide_eq_decide.mpr (by omega)
    · rw [if_neg hc]
      exact decide_eq_decide.mpr (by omega)
  · rw [if_neg h]
    have h1 : ((g2 a b : Nat) : Int) ∣ a := Int.ofNat_dvd_left.mpr (Nat.gcd_dvd_left _ _)
    have h2 : ((g2 a b : Nat) : Int) ∣ b := Int.ofNat_dvd_left.mpr (Nat.gcd_dvd_right _ _)
    obtain ⟨a', ha⟩ := h1
    obtain ⟨b', hb⟩ := h2
    have g0 : (0 : Int) < (g2 a b : Nat) := by omega
    generalize ((g2 a b : Nat) : Int) = g at *
    have e1 : a.fdiv g = a' := by rw [ha]; exact fmul g0
    have e2 : b.fdiv g = b' := by rw [hb]; exact fmul g0
    rw [e1, e2, fe g0]
    have e4 : a * i + b * n + c = c + g * (a' * i + b' * n) := by
      rw [ha, hb, Int.mul_add, Int.mul_assoc, Int.mul_assoc]
      omega
    have e5 : a' * i + b' * n + c / g = (c + g * (a' * i + b' * n)) / g := by
      rw [Int.add_mul_ediv_left _ _ (by omega)]
      omega
    rw [e4, e5]
    exact decide_eq_decide.mpr (Int.ediv_nonneg_iff_of_pos g0)
theorem fm {x m : Int} (h : 0 < m) : x.fmod m = x % m := Int.fmod_eq_emod_of_nonneg _ (Int.le_of_lt h)
theorem rest_form {a b c m r i n : Int} (hm : 2 ≤ m) (hm2 : m ≤ 4) (r0 : 0 ≤ r) (r1 : r ≤ m - 1) : decide (((a.fmod m) * i + (b.fmod m) * n + 0).fmod m = (r - c).fmod m) = decide ((a * i + b * n + c).fmod m = r) := by
  have m0 : 0 < m := by omega
  rw [fm m0, fm m0, fm m0, fm m0, fm m0]
  have e : a * i + b * n = (a % m * i + b % m * n) + m * (a / m * i + b / m * n) := by
    have e1 : a * i = a % m * i + m * (a / m * i) := by
      rw [← Int.mul_assoc, ← Int.add_mul, Int.emod_add_mul_ediv]
    have e2 : b * n = b % m * n + m * (b / m * n) := by
      rw [← Int.mul_assoc, ← Int.add_mul, Int.emod_add_mul_ediv]
    rw [Int.mul_add]
    omega
  rw [e]
  generalize a % m * i + b % m * n = y
  generalize a / m * i + b / m * n = k
  refine decide_eq_decide.mpr ?_
  have h3 : m = 2 ∨ m = 3 ∨ m = 4 := by omega
  rcases h3 with z | z | z <;> subst z <;> omega
section
variable (K : PySem.W.Frag)
abbrev CA : Addr := He.ga K "AtLeast"
abbrev CR : Addr := He.ga K "Rest"
def af (q : Addr) : List (Str × V) := putF "straight" (.ref q) []
def rf (q : Addr) (m r : Int) : List (Str × V) := putF "rest" (.int r) (putF "modulus" (.int m) (putF "straight" (.ref q) []))
def AtlAt (H : Hp) (p : Addr) (a b c : Int) : Prop := ∃ dx q, H p = some (.ins (CA K) dx (af q)) ∧ StrAt K H q a b c
def RstAt (H : Hp) (p : Addr) (a b m r : Int) : Prop := ∃ dx q, H p = some (.ins (CR K) dx (rf q m r)) ∧ StrAt K H q a b 0
end
theorem sm_ : ¬ (("straight" : Str) = "modulus") := by decide +kernel
theorem sr_ : ¬ (("straight" : Str) = "rest") := by decide +kernel
theorem mr_ : ¬ (("modulus" : Str) = "rest") := by decide +kernel
theorem af_s (q : Addr) : (af q).lookup ("straight" : Str) = some (.ref q) := by
  unfold af
  rw [lookup_putF, if_pos rfl]
theorem af_no (q : Addr) {m : Str} (h1 : ¬ m = "straight") : (af q).lookup m = none := by
  unfold af
  rw [lookup_putF, if_neg h1]
  rfl
theorem rf_s (q : Addr) (m r : Int) : (rf q m r).lookup ("straight" : Str) = some (.ref q) := by
  unfold rf
  rw [lookup_putF, if_neg sr_, lookup_putF, if_neg sm_, lookup_putF, if_pos rfl]
theorem rf_m (q : Addr) (m r : Int) : (rf q m r).lookup ("modulus" : Str) = some (.int m) := by
  unfold rf
  rw [lookup_putF, if_neg mr_, lookup_putF, if_pos rfl]
theorem rf_r (q : Addr) (m r : Int) : (rf q m r).lookup ("rest" : Str) = some (.int r) := by
  unfold rf
  rw [lookup_putF, if_pos rfl]
theorem rf_no (q : Addr) (k r : Int) {m : Str} (h1 : ¬ m = "straight") (h2 : ¬ m = "modulus") (h3 : ¬ m = "rest") : (rf q k r).lookup m = none := by
  unfold rf
  rw [lookup_putF, if_neg h3, lookup_putF, if_neg h2, lookup_putF, if_neg h1]
  rfl
variable {K : PySem.W.Frag}
theorem AtlAt.same {H H' : Hp} {p : Addr} {a b c : Int} (h : AtlAt K H p a b c) (s : Same H H') : AtlAt K H' p a b c := by
  obtain ⟨dx, q, h, h2⟩ := h
  exact ⟨dx, q, s _ _ h, h2.same s⟩
theorem RstAt.same {H H' : Hp} {p : Addr} {a b m r : Int} (h : RstAt K H p a b m r) (s : Same H H') : RstAt K H' p a b m r := by
  obtain ⟨dx, q, h, h2⟩ := h
  exact ⟨dx, q, s _ _ h, h2.same s⟩
theorem AtlAt.keep {H H' : Hp} {p q : Addr} {a b c : Int} {t : Nat} (h : AtlAt K H p a b c) (hp : Pen H q t) (k : Keep q H H') : AtlAt K H' p a b c := by
  obtain ⟨dx, r, h, h2⟩ := h
  exact ⟨dx, r, k _ _ (hp.ne h fun _ z => by cases z) h, h2.keep hp k⟩
theorem RstAt.keep {H H' : Hp} {p q : Addr} {a b m r : Int} {t : Nat} (h : RstAt K H p a b m r) (hp : Pen H q t) (k : Keep q H H') : RstAt K H' p a b m r := by
  obtain ⟨dx, r, h, h2⟩ := h
  exact ⟨dx, r, k _ _ (hp.ne h fun _ z => by cases z) h, h2.keep hp k⟩
structure CoTx (K : PySem.W.Frag) (mg : Str → Option Value) : Prop extends StTx K mg where
  gA : mg "AtLeast" = some (.ref (CA K))
  clA : Cls K (CA K)
  mkA : Mk K (CA K) (He.ma K (CA K) "__init__")
  nAS : NoAttr K (CA K) "straight"
  gR : mg "Rest" = some (.ref (CR K))
  clR : Cls K (CR K)
  mkR : Mk K (CR K) (He.ma K (CR K) "__init__")
  nRS : NoAttr K (CR K) "straight"
  nRM : NoAttr K (CR K) "modulus"
  nRR : NoAttr K (CR K) "rest"
  gcd : mg "gcd" = some (.builtin "math.gcd")
  topM : ∃ t, mg "TOP_MODULUS" = some (.int 4 t)
section
variable (K : PySem.W.Frag)
def NewA (H : Hp) (a b c : Int) (Q : VK) : Prop := ∀ p H', Same H H' → AtlAt K H' p a b c → Q (.ref p) H'
def NewR (H : Hp) (a b m r : Int) (Q : VK) : Prop := ∀ p H', Same H H' → RstAt K H' p a b m r → Q (.ref p) H'
def spIntFrom : Sp := fun vs H Q _ => ∃ v lo hi : Int, vs = [.int v, .int lo, .int hi] ∧ Q (.bl (decide (lo ≤ v ∧ v ≤ hi))) H
def spAI : Sp := fun vs H Q _ => ∃ (p dx : Addr) (v : V) (a b c : Int), vs = [.ref p, v] ∧ H p = some (.ins (CA K) dx []) ∧ SumV K H v a b c ∧ g2 a b < 1073741824 ∧
  ∀ q H', H' p = some (.ins (CA K) dx (af q)) → StrAt K H' q (a.fdiv (g2 a b)) (b.fdiv (g2 a b)) (lf3 a b c) → Keep p H H' → Q .non H'
/-- what Rest(v, m, r) asks -/
def rRst (v : V) (m r : Int) (H : Hp) (ok : Int → Int → Int → Prop) (E : XK) : Prop := ∃ a b c, SumV K H v a b c ∧ (¬ (2 ≤ m ∧ m ≤ 4) → BadN K H "modulus" (.int m) E) ∧ (2 ≤ m → m ≤ 4 → ¬ (0 ≤ r ∧ r ≤ m - 1) → BadN K H "rest" (.int r) E) ∧ (2 ≤ m → m ≤ 4 → 0 ≤ r → r ≤ m - 1 → ok a b c)
def spRI : Sp := fun vs H Q E => ∃ (p dx : Addr) (v : V) (m r : Int), vs = [.ref p, v, .int m, .int r] ∧ H p = some (.ins (CR K) dx []) ∧
  rRst K v m r H (fun a b c => ∀ q H', H' p = some (.ins (CR K) dx (rf q m ((r - c).fmod m))) → StrAt K H' q (a.fmod m) (b.fmod m) 0 → Keep p H H' → Q .non H') E
end
end Z

set_option maxHeartbeats 4000000
namespace K21
open PySem PySem.Spec PyProof.Rows L2 Z
def top (i : Nat) : Stmt := PySem.Challenge.pw_loopsize_k21_sums_and_conditions.main.body.getD i (.Pass ⟨0, 0, 0, 0⟩)
abbrev s_is_integer : Stmt := top 5
abbrev s_is_integer_from : Stmt := top 6
abbrev s_is_straight : Stmt := top 10
abbrev s_straight_like : Stmt := top 11
abbrev s_value_of : Stmt := top 12
abbrev s_added : Stmt := top 13
abbrev s_replaced_straight : Stmt := top 14
abbrev s_law_pen : Stmt := top 20
abbrev s_law_draw : Stmt := top 21
abbrev s_law_big : Stmt := top 22
abbrev s_law_between : Stmt := top 23
abbrev s_law_far : Stmt := top 24
abbrev s_law_divisor : Stmt := top 25
abbrev s_law_guard_due : Stmt := top 26
abbrev s_law_value : Stmt := top 27
abbrev s_law_guard_holds : Stmt := top 28
abbrev s_law_three : Stmt := top 29
abbrev s_law_is_sum : Stmt := top 30
abbrev s_law_pair_right : Stmt := top 31
abbrev s_law_guard_right : Stmt := top 32
abbrev s_law_refused_rest : Stmt := top 33
abbrev s_law : Stmt := top 34
abbrev iBadNumber__init__ : Stmt := inClass (top 3) 0
abbrev iStraight__init__ : Stmt := inClass (top 8) 0
abbrev iStraight__call__ : Stmt := inClass (top 8) 1
abbrev iStraight__eq__ : Stmt := inClass (top 8) 2
abbrev iStraight__add__ : Stmt := inClass (top 8) 3
abbrev iStraight__radd__ : Stmt := inClass (top 8) 4
abbrev iStraight__sub__ : Stmt := inClass (top 8) 5
abbrev iStraight__rsub__ : Stmt := inClass (top 8) 6
abbrev iStraight__neg__ : Stmt := inClass (top 8) 7
abbrev iStraight__mul__ : Stmt := inClass (top 8) 8
abbrev iStraight__rmul__ : Stmt := inClass (top 8) 9
abbrev iStraight__floordiv__ : Stmt := inClass (top 8) 10
abbrev iStraightreplaced : Stmt := inClass (top 8) 11
abbrev iPlace__init__ : Stmt := inClass (top 9) 0
abbrev iPlace__call__ : Stmt := inClass (top 9) 1
abbrev iPlace__eq__ : Stmt := inClass (top 9) 2
abbrev iPlacereplaced : Stmt := inClass (top 9) 3
abbrev iAtLeast__init__ : Stmt := inClass (top 17) 0
abbrev iAtLeastholds : Stmt := inClass (top 17) 1
abbrev iAtLeastreplaced : Stmt := inClass (top 17) 2
abbrev iRest__init__ : Stmt := inClass (top 18) 0
abbrev iRestholds : Stmt := inClass (top 18) 1
abbrev iRestreplaced : Stmt := inClass (top 18) 2
def d_is_integer : He.DefD := ⟨("is_integer", none), "is_integer", "is_integer", defArgs s_is_integer, defBody s_is_integer, defScope s_is_integer, [], []⟩
def d_is_integer_from : He.DefD := ⟨("is_integer_from", none), "is_integer_from", "is_integer_from", defArgs s_is_integer_from, defBody s_is_integer_from, defScope s_is_integer_from, [], []⟩
def d_is_straight : He.DefD := ⟨("is_straight", none), "is_straight", "is_straight", defArgs s_is_straight, defBody s_is_straight, defScope s_is_straight, [], []⟩
def d_straight_like : He.DefD := ⟨("straight_like", none), "straight_like", "straight_like", defArgs s_straight_like, defBody s_straight_like, defScope s_straight_like, [], []⟩
def d_value_of : He.DefD := ⟨("value_of", none), "value_of", "value_of", defArgs s_value_of, defBody s_value_of, defScope s_value_of, [], []⟩
def d_added : He.DefD := ⟨("added", none), "added", "added", defArgs s_added, defBody s_added, defScope s_added, [], []⟩
def d_replaced_straight : He.DefD := ⟨("replaced_straight", none), "replaced_straight", "replaced_straight", defArgs s_replaced_straight, defBody s_replaced_straight, defScope s_replaced_straight, [], []⟩
def d_law_pen : He.DefD := ⟨("_law_pen", none), "_law_pen", "_law_pen", defArgs s_law_pen, defBody s_law_pen, defScope s_law_pen, [], []⟩
def d_law_draw : He.DefD := ⟨("_law_draw", none), "_law_draw", "_law_draw", defArgs s_law_draw, defBody s_law_draw, defScope s_law_draw, [], []⟩
def d_law_big : He.DefD := ⟨("_law_big", none), "_law_big", "_law_big", defArgs s_law_big, defBody s_law_big, defScope s_law_big, [], []⟩
def d_law_between : He.DefD := ⟨("_law_between", none), "_law_between", "_law_between", defArgs s_law_between, defBody s_law_between, defScope s_law_between, [], []⟩
def d_law_far : He.DefD := ⟨("_law_far", none), "_law_far", "_law_far", defArgs s_law_far, defBody s_law_far, defScope s_law_far, [], []⟩
def d_law_divisor : He.DefD := ⟨("_law_divisor", none), "_law_divisor", "_law_divisor", defArgs s_law_divisor, defBody s_law_divisor, defScope s_law_divisor, [], []⟩
def d_law_guard_due : He.DefD := ⟨("_law_guard_due", none), "_law_guard_due", "_law_guard_due", defArgs s_law_guard_due, defBody s_law_guard_due, defScope s_law_guard_due, [], []⟩
def d_law_value : He.DefD := ⟨("_law_value", none), "_law_value", "_law_value", defArgs s_law_value, defBody s_law_value, defScope s_law_value, [], []⟩
def d_law_guard_holds : He.DefD := ⟨("_law_guard_holds", none), "_law_guard_holds", "_law_guard_holds", defArgs s_law_guard_holds, defBody s_law_guard_holds, defScope s_law_guard_holds, [], []⟩
def d_law_three : He.DefD := ⟨("_law_three", none), "_law_three", "_law_three", defArgs s_law_three, defBody s_law_three, defScope s_law_three, [], []⟩
def d_law_is_sum : He.DefD := ⟨("_law_is_sum", none), "_law_is_sum", "_law_is_sum", defArgs s_law_is_sum, defBody s_law_is_sum, defScope s_law_is_sum, [], []⟩
def d_law_pair_right : He.DefD := ⟨("_law_pair_right", none), "_law_pair_right", "_law_pair_right", defArgs s_law_pair_right, defBody s_law_pair_right, defScope s_law_pair_right, [], []⟩
def d_law_guard_right : He.DefD := ⟨("_law_guard_right", none), "_law_guard_right", "_law_guard_right", defArgs s_law_guard_right, defBody s_law_guard_right, defScope s_law_guard_right, [], []⟩
def d_law_refused_rest : He.DefD := ⟨("_law_refused_rest", none), "_law_refused_rest", "_law_refused_rest", defArgs s_law_refused_rest, defBody s_law_refused_rest, defScope s_law_refused_rest, [], []⟩
def d_law : He.DefD := ⟨("law", none), "law", "law", defArgs s_law, defBody s_law, defScope s_law, [], []⟩
def dBadNumber__init__ : He.DefD := ⟨("BadNumber", some "__init__"), "__init__", "BadNumber.__init__", defArgs iBadNumber__init__, defBody iBadNumber__init__, defScope iBadNumber__init__, [], []⟩
def dStraight__init__ : He.DefD := ⟨("Straight", some "__init__"), "__init__", "Straight.__init__", defArgs iStraight__init__, defBody iStraight__init__, defScope iStraight__init__, [], []⟩
def dStraight__call__ : He.DefD := ⟨("Straight", some "__call__"), "__call__", "Straight.__call__", defArgs iStraight__call__, defBody iStraight__call__, defScope iStraight__call__, [], []⟩
def dStraight__eq__ : He.DefD := ⟨("Straight", some "__eq__"), "__eq__", "Straight.__eq__", defArgs iStraight__eq__, defBody iStraight__eq__, defScope iStraight__eq__, [], []⟩
def dStraight__add__ : He.DefD := ⟨("Straight", some "__add__"), "__add__", "Straight.__add__", defArgs iStraight__add__, defBody iStraight__add__, defScope iStraight__add__, [], []⟩
def dStraight__radd__ : He.DefD := ⟨("Straight", some "__radd__"), "__radd__", "Straight.__radd__", defArgs iStraight__radd__, defBody iStraight__radd__, defScope iStraight__radd__, [], []⟩
def dStraight__sub__ : He.DefD := ⟨("Straight", some "__sub__"), "__sub__", "Straight.__sub__", defArgs iStraight__sub__, defBody iStraight__sub__, defScope iStraight__sub__, [], []⟩
def dStraight__rsub__ : He.DefD := ⟨("Straight", some "__rsub__"), "__rsub__", "Straight.__rsub__", defArgs iStraight__rsub__, defBody iStraight__rsub__, defScope iStraight__rsub__, [], []⟩
def dStraight__neg__ : He.DefD := ⟨("Straight", some "__neg__"), "__neg__", "Straight.__neg__", defArgs iStraight__neg__, defBody iStraight__neg__, defScope iStraight__neg__, [], []⟩
def dStraight__mul__ : He.DefD := ⟨("Straight", some "__mul__"), "__mul__", "Straight.__mul__", defArgs iStraight__mul__, defBody iStraight__mul__, defScope iStraight__mul__, [], []⟩
def dStraight__rmul__ : He.DefD := ⟨("Straight", some "__rmul__"), "__rmul__", "Straight.__rmul__", defArgs iStraight__rmul__, defBody iStraight__rmul__, defScope iStraight__rmul__, [], []⟩
def dStraightreplaced : He.DefD := ⟨("Straight", some "replaced"), "replaced", "Straight.replaced", defArgs iStraightreplaced, defBody iStraightreplaced, defScope iStraightreplaced, [], []⟩
def dAtLeast__init__ : He.DefD := ⟨("AtLeast", some "__init__"), "__init__", "AtLeast.__init__", defArgs iAtLeast__init__, defBody iAtLeast__init__, defScope iAtLeast__init__, [], []⟩
def dAtLeastholds : He.DefD := ⟨("AtLeast", some "holds"), "holds", "AtLeast.holds", defArgs iAtLeastholds, defBody iAtLeastholds, defScope iAtLeastholds, [], []⟩
def dAtLeastreplaced : He.DefD := ⟨("AtLeast", some "replaced"), "replaced", "AtLeast.replaced", defArgs iAtLeastreplaced, defBody iAtLeastreplaced, defScope iAtLeastreplaced, [], []⟩
def dRest__init__ : He.DefD := ⟨("Rest", some "__init__"), "__init__", "Rest.__init__", defArgs iRest__init__, defBody iRest__init__, defScope iRest__init__, [], []⟩
def dRestholds : He.DefD := ⟨("Rest", some "holds"), "holds", "Rest.holds", defArgs iRestholds, defBody iRestholds, defScope iRestholds, [], []⟩
def dRestreplaced : He.DefD := ⟨("Rest", some "replaced"), "replaced", "Rest.replaced", defArgs iRestreplaced, defBody iRestreplaced, defScope iRestreplaced, [], []⟩
def fn0 : List He.DefD := [d_is_integer, d_is_integer_from, d_is_straight, d_straight_like, d_value_of, d_added, d_replaced_straight, d_law_pen]
def fn1 : List He.DefD := [d_law_draw, d_law_big, d_law_between, d_law_far, d_law_divisor, d_law_guard_due, d_law_value, d_law_guard_holds]
def fn2 : List He.DefD := [d_law_three, d_law_is_sum, d_law_pair_right, d_law_guard_right, d_law_refused_rest, d_law, dBadNumber__init__, dStraight__init__]
def fn3 : List He.DefD := [dStraight__call__, dStraight__eq__, dStraight__add__, dStraight__radd__, dStraight__sub__, dStraight__rsub__, dStraight__neg__, dStraight__mul__]
def fn4 : List He.DefD := [dStraight__rmul__, dStraightreplaced, dAtLeast__init__, dAtLeastholds, dAtLeastreplaced, dRest__init__, dRestholds, dRestreplaced]
def fn : List He.DefD := fn0 ++ fn1 ++ fn2 ++ fn3 ++ fn4
def glos0 : List Str := ["LoopError", "BadNumber", "Straight", "Place", "AtLeast", "Rest", "is_integer", "is_integer_from"]
def glos1 : List Str := ["is_straight", "straight_like", "value_of", "added", "replaced_straight", "_law_pen", "_law_draw", "_law_big"]
def glos2 : List Str := ["_law_between", "_law_far", "_law_divisor", "_law_guard_due", "_law_value", "_law_guard_holds", "_law_three", "_law_is_sum"]
def glos3 : List Str := ["_law_pair_right", "_law_guard_right", "_law_refused_rest", "law"]
def glos : List Str := glos0 ++ glos1 ++ glos2 ++ glos3
def frees0 : List Str := ["int", "len", "list", "isinstance", "range", "str", "abs", "max"]
def frees1 : List Str := ["min", "bool", "zip"]
def frees : List Str := frees0 ++ frees1
def owns0 : List Str := ["Straight", "AtLeast", "Rest", "Place"]
def owns : List Str := owns0
def atts0 : List (Str × Str) := [("Straight", "i"), ("Straight", "n"), ("Straight", "one"), ("AtLeast", "straight"), ("Rest", "straight"), ("Rest", "modulus"), ("Rest", "rest")]
def atts : List (Str × Str) := atts0
def mets0 : List (Str × Str) := [("Straight", "__init__"), ("Straight", "__call__"), ("Straight", "__eq__"), ("Straight", "__add__"), ("Straight", "__radd__"), ("Straight", "__sub__"), ("Straight", "__rsub__"), ("Straight", "__neg__")]
def mets1 : List (Str × Str) := [("Straight", "__mul__"), ("Straight", "__rmul__"), ("Straight", "replaced"), ("AtLeast", "__init__"), ("AtLeast", "holds"), ("AtLeast", "replaced"), ("Rest", "__init__"), ("Rest", "holds")]
def mets2 : List (Str × Str) := [("Rest", "replaced")]
def mets : List (Str × Str) := mets0 ++ mets1 ++ mets2
def oprs0 : List (Str × String) := [("Straight", "add"), ("Straight", "mul"), ("Straight", "sub")]
def oprs : List (Str × String) := oprs0
def excs0 : List (Str × List Str) := [("BadNumber", ["what", "number"])]
def excs : List (Str × List Str) := excs0
def kits (K : PySem.W.Frag) : Bool := true && decide (PySem.W.kitOne K (.ref (He.ga K "Straight")) (.type "int") = some false) && decide (PySem.W.kitOne K (.ref (He.ga K "Straight")) (.ref (He.ga K "Straight")) = some true) && decide (PySem.W.kitOne K (.type "int") (.ref (He.ga K "Straight")) = some false) && decide (PySem.W.kitOne K (.type "str") (.ref (He.ga K "Straight")) = some false) && decide (PySem.W.kitOne K (.type "tuple") (.ref (He.ga K "Straight")) = some false) && decide (PySem.W.kitOne K (.type "int") (.type "int") = some true) && decide (PySem.W.kitOne K (.type "int") (.type "bool") = some false)
def insB (K : PySem.W.Frag) (C : Addr) : Bool := He.eqO (PySem.W.findIn K (.ref C) "__class__") (some (some (.builtin "object.__class__"))) && (He.eqO (PySem.W.specialIn K (.builtin "object.__class__") "__get__") (some (some (.builtin "getset_descriptor.__get__"))) && (decide (PySem.W.takesIn K (.builtin "object.__class__") = some true) && decide (PySem.W.mroIn K C (.type "object") = some true)))
def fa : List FaK := [
  fun K => glos.all fun x => (He.Fa.glo x).ok K,
  fun K => frees.all fun x => (He.Fa.free x).ok K,
  fun K => owns.all fun x => (He.Fa.cls x).ok K && ((He.Fa.mkr x).ok K && insB K (He.ga K x)),
  fun K => atts.all fun q => (He.Fa.noat q.1 q.2).ok K,
  fun K => mets.all fun q => (He.Fa.meth q.1 q.2).ok K,
  fun K => oprs.all fun q => opiB K (He.ga K q.1) q.2,
  fun K => excs.all fun q => exkB K (He.ga K q.1) && (oexB K (He.ga K q.1) && (He.eqO (PySem.W.findIn K (.ref (He.ga K q.1)) "__init__") (some (some (.ref (He.ma K (He.ga K q.1) "__init__")))) && (decide (PySem.W.typeIn K (.ref (He.ma K (He.ga K q.1) "__init__")) = some (.type "function")) &&
    q.2.all fun f => He.eqO (PySem.W.findIn K (.ref (He.ga K q.1)) f) (some none)))),
  kits,
  fun K => He.eqO (PySem.W.nsIn K mainGlobals "gcd") (some (some (.builtin "math.gcd"))),
  fun K => (([("Straight", .type "int"), ("Straight", .type "str"), ("Straight", .type "tuple"), ("Straight", .ref (He.ga K "Straight"))] : List (Str × Value)).all fun q => PySem.W.notFirst K (He.ga K q.1) q.2),
  fun K => decide (PySem.W.exmOne K (.ref (He.ga K "BadNumber")) (.ref (He.ga K "BadNumber")) = some true),
  fun K => (match PySem.W.nsIn K mainGlobals "TOP_MODULUS" with | some (some (.int 4 _)) => true | _ => false),
  fun K => He.eqO (PySem.W.findIn K (.ref (He.ga K "Straight")) "__ne__") (some (some (.builtin "object.__ne__"))) && decide (PySem.W.subIn K (.ref (He.ga K "Straight")) (.type "object") = some true)]
abbrev R : PySem.W.OpenRow := PySem.W.OpenLaw.row PySem.Challenge.rw_loopsize_k21_sums_and_conditions
abbrev hk : PySem.W.Hook := hookX 5 fa fn
def ob (s : PySem.W.SharedT) : He.AlD := obsXG 5 fa fn (HandSHeadRun.getT s)
theorem ob_eq (s : PySem.W.SharedT) : ob s = hk.obs s.abs := obsXG_eq (HandSHeadRun.getT_eq s)
def names0 : List Str := ["LoopError", "BadNumber", "is_integer", "is_integer_from", "Straight", "Place", "is_straight", "straight_like"]
def names1 : List Str := ["value_of", "added", "replaced_straight", "AtLeast", "Rest", "_law_pen", "_law_draw", "_law_big"]
def names2 : List Str := ["_law_between", "_law_far", "_law_divisor", "_law_guard_due", "_law_value", "_law_guard_holds", "_law_three", "_law_is_sum"]
def names3 : List Str := ["_law_pair_right", "_law_guard_right", "_law_refused_rest", "TOP_MODULUS"]
def names : List Str := names0 ++ names1 ++ names2 ++ names3
end K21

set_option maxHeartbeats 4000000
namespace K21
open PySem PySem.Spec PyProof.Rows L2 Z
/-! ### what the text has written -/
abbrev FnP (K : PySem.W.Frag) (x : Str) (st : Stmt) (f : Addr) (fd : FuncData) : Prop := FunD K x x (defArgs st) (defBody st) (defScope st) [] [] f fd
/-- the built-in names that are still their own -/
structure Bt (mg : Str → Option Value) : Prop where
  int : mg "int" = none
  len : mg "len" = none
  list : mg "list" = none
section
variable {P : Program} {w : World} {K : PySem.W.Frag} {mg : Str → Option Value} {base : Heap}
theorem sc_law_pen : FnScope ["_law_script"] ["_law_script"] (defScope s_law_pen) := ⟨rfl, rfl, rfl, by decide +kernel, rfl, by decide +kernel, by decide +kernel⟩
theorem ok_pen {f : Addr} {fd : FuncData} (F : FnP K "_law_pen" s_law_pen f fd) (T : Bt mg) : FnOk P w K mg base CX0 1 f fd ["_law_script"] (spPen K) := by
  refine F.ok sc_law_pen (fun vs H Q E h => ?_) (fun cdv A outer s H vs Q E hr h => ?_)
  · obtain ⟨a, ns, rfl, _⟩ := h
    rfl
  · obtain ⟨a, ns, rfl, hS, hl, k⟩ := h
    have hu := hu_of hr
    refine ⟨_, PSs.nox (pss_one (ps_ret (pe_disp (pps_cons pe_str (pe_callTy call_list_of (by rfl) T.list (by decide +kernel) (pa_cons (pe_slice sl_list (pv 0) po_none (po_some pe_int)) pa_nil)) (pps_cons pe_str pe_int (pps_cons pe_str pe_int pps_nil))) (by rfl) (by rfl) (fun z => by cases z) (by decide)))), ?_⟩
    intro p hp
    refine ⟨_, rfl, _, rfl, a, ns.map V.int, rfl, ?_, fun q hq => ⟨q, _, rfl, .inl (SqL.of upd_same), fun l hl2 => ?_⟩⟩
    · exact Same.seq (Same.new _ (Same.refl H) hp) hS
    have npq : p ≠ q := fun z => by
      rw [← z, upd_same] at hq
      cases hq
    have npl : p ≠ l := fun z => by
      rw [← z, upd_ne npq, upd_same] at hl2
      cases hl2
    refine ⟨(by rw [upd_ne npl, upd_ne npq, upd_same]), penK l 0 0, rfl, (by show 3 ≤ 15; decide), ?_⟩
    have em : mergeK [] (penK l 0 0) = penK l 0 0 := by
      show putK (putK (putK [] (Sum.inr "cells" : Key) (.ref l)) (Sum.inr "at" : Key) (.int 0)) (Sum.inr "left" : Key) (.int 0) = penK l 0 0
      have e1 : putK ([] : List (Key × V)) (Sum.inr "cells" : Key) (.ref l) = [((Sum.inr "cells" : Key), V.ref l)] := putK_new (kvs := []) _ rfl
      have e2 : putK [((Sum.inr "cells" : Key), V.ref l)] (Sum.inr "at" : Key) (.int 0) = [((Sum.inr "cells" : Key), V.ref l), (Sum.inr "at", V.int 0)] := putK_new _ (by
        rw [valV_neg (key_ne ca_)]
        rfl)
      have e3 : putK [((Sum.inr "cells" : Key), V.ref l), (Sum.inr "at", V.int 0)] (Sum.inr "left" : Key) (.int 0) = penK l 0 0 := putK_new _ (by
        rw [valV_neg (key_ne cl_), valV_neg (key_ne al_)]
        rfl)
      rw [e1, e2, e3]
    rw [em]
    have hc : (cutV (ns.map V.int) none (some 63)) = (ns.map V.int) := by
      unfold cutV
      have e1 : HT.sIx (ns.map V.int).length 0 none = 0 := HT.sIx_none _ _
      have e2 : HT.sIx (ns.map V.int).length (ns.map V.int).length (some 63) = min 63 (ns.map V.int).length := HT.sIx_nat _ _ 63
      rw [e1, e2, List.drop_zero, List.length_map, Nat.sub_zero, Nat.min_eq_right hl, ← List.length_map (f := V.int), List.take_length]
    rw [hc]
    refine k _ p (fun b o e => ?_) hp ⟨l, ns, 0, 0, upd_same, by rw [upd_ne npl.symm, upd_same], hl, Int.le_refl 0, Int.le_refl 0, Int.le_refl 0⟩
    have nbp : b ≠ p := ne_of_none e hp
    have nbq : b ≠ q := fun z => by
      rw [← z, upd_ne nbp] at hq
      rw [hq] at e
      cases e
    have nbl : b ≠ l := fun z => by
      rw [← z, upd_ne nbq, upd_ne nbp] at hl2
      rw [hl2] at e
      cases e
    rw [upd_ne nbp, upd_ne nbl, upd_ne nbq, upd_ne nbp]
    exact e
theorem sc_law_draw : FnScope ["_law_pen_here", "_law_many", "_law_digit", "_law_spot", "_law_cell", "_law_mixed"] ["_law_pen_here", "_law_many"] (defScope s_law_draw) := ⟨rfl, rfl, rfl, by decide +kernel, rfl, by decide +kernel, by decide +kernel⟩
theorem ok_draw {f : Addr} {fd : FuncData} (F : FnP K "_law_draw" s_law_draw f fd) (T : Bt mg) : FnOk P w K mg base CX0 1 f fd ["_law_pen_here", "_law_many"] spDraw := by
  refine F.ok sc_law_draw (fun vs H Q E h => ?_) (fun cdv A outer s H vs Q E hr h => ?_)
  · obtain ⟨p, m, t, rfl, _⟩ := h
    rfl
  · obtain ⟨p, m, t, rfl, hm, hm2, ht, hP, k⟩ := h
    obtain ⟨c, ns, a, l, h1, h2, h3, h4, h5, h6⟩ := id hP
    have hu := hu_of hr
    have m0 : m ≠ 0 := by omega
    have mb : m.natAbs < 1073741824 := by omega
    have ncp : c ≠ p := ne_of h2 h1 lst_ne_dK
    have z1 : (2147483629 : Int) ≠ 0 := by decide
    have z2 : (2147483647 : Int) ≠ 0 := by decide
    have z3 : (2147483587 : Int) ≠ 0 := by decide
    have z4 : (2147483563 : Int) ≠ 0 := by decide
    refine ⟨_, PSs.nox (pss_cons (ps_if (pt_cmpR op_ge (pe_dget hu (pv 0) pe_str (fun _ _ => rfl)) (pv 1) (nomark _)) (pss_cons (ps_set (i := 2) sc_law_draw.nd rfl (Or.inl rfl) (pe_op op_modN (pe_callTy call_int1 (by rfl) T.int (by decide +kernel) (pa_cons (pe_dget hu (pv 0) pe_str (fun _ _ => rfl)) pa_nil)) (pv 1)))
      (pss_cons (ps_dput hu (pv 0) pe_str (pe_op op_fdivN (pe_dget hu (pv 0) pe_str (fun _ _ => rfl)) (pv 1)) rfl)
      (pss_one (ps_ret (pv 2))))) pss_nil)
      (pss_cons (ps_set (i := 3) sc_law_draw.nd rfl (Or.inl rfl) (pe_dget hu (pv 0) pe_str (fun _ _ => rfl)))
      (pss_cons (ps_dput hu (pv 0) pe_str (pe_op op_add (pv 3) pe_int) rfl)
      (pss_cons (ps_if (pt_cmpR (op_eqD hr.units) (pe_dget hu (pv 0) pe_str (fun _ _ => rfl)) (pe_lst pa_nil) (nomark _)) (pss_one (ps_ret (pe_op op_modN (pe_callTy call_int1 (by rfl) T.int (by decide +kernel) (pa_cons (pe_op op_add (pe_op op_mul pe_int (pv 3)) pe_int) pa_nil)) (pv 1)))) pss_nil)
      (pss_cons (ps_set (i := 4) sc_law_draw.nd rfl (Or.inl rfl) (pe_ix ix_list (pe_dget hu (pv 0) pe_str (fun _ _ => rfl)) (pe_op op_modN (pe_callTy call_int1 (by rfl) T.int (by decide +kernel) (pa_cons (pv 3) pa_nil)) (pe_callB call_len_seq (by rfl) T.len PySem.boot_len (pa_cons (pe_dget hu (pv 0) pe_str (fun _ _ => rfl)) pa_nil))) (fun _ _ => rfl)))
      (pss_cons (ps_if (PW.pt (pw_and (pt_cmpR op_lt (pv 3) (pe_callB call_len_seq (by rfl) T.len PySem.boot_len (pa_cons (pe_dget hu (pv 0) pe_str (fun _ _ => rfl)) pa_nil)) (nomark _)) (pw_and1 (pt_cmpR op_ge (pv 4) (pe_op op_pow pe_int pe_int) (nomark _))))) (pss_cons (ps_dput hu (pv 0) pe_str (pe_op op_fdivN (pe_op op_sub (pv 4) (pe_op op_pow pe_int pe_int)) (pv 1)) rfl)
      (pss_one (ps_ret (pe_op op_modN (pe_callTy call_int1 (by rfl) T.int (by decide +kernel) (pa_cons (pe_op op_sub (pv 4) (pe_op op_pow pe_int pe_int)) pa_nil)) (pv 1))))) pss_nil)
      (pss_cons (ps_set (i := 5) sc_law_draw.nd rfl (Or.inl rfl) (pe_op op_add (pe_op op_add (pe_op op_mul (pe_op op_add (pe_op op_modN (pe_callTy call_int1 (by rfl) T.int (by decide +kernel) (pa_cons (pv 4) pa_nil)) pe_int) pe_int) (pe_op op_add (pe_op op_mul pe_int (pv 3)) pe_int)) (pe_op op_mul (pe_op op_mul pe_int (pv 3)) (pv 3))) pe_int))
      (pss_cons (ps_set (i := 5) sc_law_draw.nd rfl (Or.inl rfl) (pe_op op_modN (pe_callTy call_int1 (by rfl) T.int (by decide +kernel) (pa_cons (pv 5) pa_nil)) pe_int))
      (pss_cons (ps_set (i := 5) sc_law_draw.nd rfl (Or.inl rfl) (pe_op op_modN (pe_callTy call_int1 (by rfl) T.int (by decide +kernel) (pa_cons (pe_op op_mul (pv 5) (pe_op op_add (pv 5) pe_int)) pa_nil)) pe_int))
      (pss_cons (ps_set (i := 5) sc_law_draw.nd rfl (Or.inl rfl) (pe_op op_modN (pe_callTy call_int1 (by rfl) T.int (by decide +kernel) (pa_cons (pe_op op_mul (pv 5) (pv 5)) pa_nil)) pe_int))
      (pss_one (ps_ret (pe_op op_modN (pe_callTy call_int1 (by rfl) T.int (by decide +kernel) (pa_cons (pe_op op_fdivN (pv 5) pe_int) pa_nil)) (pv 1)))))))))))))), ?_⟩
    refine ⟨_, rfl, p, _, rfl, pen_left h1, _, rfl, _, _, rfl, rfl, _, rfl, ?_⟩
    refine ite2 (fun _ => ?_) (fun _ => ?_)
    · refine ⟨_, rfl, p, _, rfl, pen_left h1, .inl ⟨_, rfl, _, rfl, _, _, rfl, rfl, m0, ?_⟩⟩
      refine ⟨_, rfl, p, _, rfl, pen_left h1, _, rfl, _, _, rfl, rfl, ⟨m0, mb⟩, _, rfl, p, _, rfl, pen_put_left _ h1, ?_⟩
      refine ⟨_, rfl, ?_⟩
      exact k _ _ (fmod_range hm).1 (fmod_range hm).2 ⟨c, ns, a, _, upd_same, by rw [upd_ne ncp]; exact h2, h3, h4, by omega, fdiv_nn h6 hm⟩ (Keep.upd _ (Keep.refl p H))
    · -- spot, at + 1
      refine ⟨_, rfl, p, _, rfl, pen_at h1, ?_⟩
      refine ⟨_, rfl, _, _, rfl, rfl, _, rfl, p, _, rfl, pen_put_at _ h1, ?_⟩
      have g1 : ∀ b, (upd H p (.dK (penK c (a + 1) b))) p = some (.dK (penK c (a + 1) b)) := fun b => upd_same
      have g2 : ∀ o, (upd H p o) c = some (.lst (ns.map V.int)) := fun o => by rw [upd_ne ncp]; exact h2
      have kE : ∀ o, Keep p H (upd H p o) := fun o => Keep.upd _ (Keep.refl p H)
      -- cells == []
      refine ⟨_, rfl, p, _, rfl, pen_cells (g1 _), Nat.zero_le _, fun e he => ?_⟩
      have nep : e ≠ p := fun z => by
        rw [z, upd_same] at he
        cases he
      have nec : e ≠ c := fun z => by
        rw [z, g2] at he
        cases he
      have g1' : ∀ o, (upd (upd H p (.dK (penK c (a + 1) l))) e o) p = some (.dK (penK c (a + 1) l)) := fun o => by rw [upd_ne nep.symm, upd_same]
      have g2' : ∀ o, (upd (upd H p (.dK (penK c (a + 1) l))) e o) c = some (.lst (ns.map V.int)) := fun o => by rw [upd_ne nec.symm]; exact g2 _
      have kE' : ∀ o, Keep p H (upd (upd H p (.dK (penK c (a + 1) l))) e o) := fun o => Keep.new _ (kE _) he
      have pen' : ∀ o, Pen (upd (upd H p (.dK (penK c (a + 1) l))) e o) p (t + 1) := fun o => ⟨c, ns, a + 1, l, g1' _, g2' _, h3, by omega, by omega, h6⟩
      refine ⟨.list (ns.map PyData.int), .list [], .lst (SqL.of (g2' _)) (dpAll_ints ns), .lst (SqL.of upd_same) .nil, shaped_ints ns, shaped_nil, _, rfl, ?_⟩
      rw [eqv_ints_nil]
      refine ite2 (fun hc => ?_) (fun hc => ?_)
      · refine ⟨_, rfl, _, _, rfl, rfl, .inl ⟨by decide, by decide⟩, _, _, rfl, rfl, .inl ⟨_, rfl, _, rfl, _, _, rfl, rfl, m0, ?_⟩⟩
        exact k _ _ (fmod_range hm).1 (fmod_range hm).2 (pen' _) (kE' _)
      · have hpos : 0 < ns.length := by
          cases ns with
          | nil => exact absurd rfl hc
          | cons n ns => exact Nat.succ_pos _
        have hposI : (0 : Int) < ((ns.map V.int).length : Int) := by
          rw [List.length_map]
          omega
        have fr := fmod_range (x := a) hposI
        obtain ⟨j, hj⟩ : ∃ j : Nat, a.fmod ((ns.map V.int).length : Int) = (j : Int) := ⟨(a.fmod ((ns.map V.int).length : Int)).toNat, by omega⟩
        have hjl : j < ns.length := by
          have z := fr.2
          rw [hj, List.length_map] at z
          omega
        refine ⟨_, rfl, p, _, rfl, pen_cells (g1' _), _, rfl, .inl ⟨_, rfl, _, rfl, p, _, rfl, pen_cells (g1' _), c, _, rfl, .inl (SqL.of (g2' _)), _, _, rfl, rfl, by omega, ?_⟩⟩
        refine ⟨c, _, (j : Int), _, rfl, congrArg V.int hj, SqL.of (g2' _), atI_nat (get_ints hjl), ?_⟩
        generalize hz : ns[j]'hjl = z
        -- spot < len(cells) and cell >= 10 ** 18
        refine ⟨_, rfl, _, rfl, p, _, rfl, pen_cells (g1' _), c, _, rfl, .inl (SqL.of (g2' _)), _, _, rfl, rfl, _, rfl, ?_⟩
        refine ite2 (fun _ => ?_) (fun _ => iteF ?_)
        · refine ⟨_, rfl, _, _, rfl, rfl, ⟨by decide, by decide, by decide⟩, _, _, rfl, rfl, _, rfl, ?_⟩
          refine ite2 (fun hz18 => ?_) (fun _ => ?_)
          · refine ⟨_, rfl, _, _, rfl, rfl, ⟨by decide, by decide, by decide⟩, _, _, rfl, rfl, _, rfl, _, _, rfl, rfl, ⟨m0, mb⟩, _, rfl, p, _, rfl, pen_put_left _ (g1' _), ?_⟩
            refine ⟨_, rfl, _, _, rfl, rfl, ⟨by decide, by decide, by decide⟩, _, _, rfl, rfl, .inl ⟨_, rfl, _, rfl, _, _, rfl, rfl, m0, ?_⟩⟩
            have hz0 : (0 : Int) ≤ z - 10 ^ (18 : Int).toNat := Int.sub_nonneg_of_le (of_decide_eq_true hz18)
            exact k _ _ (fmod_range hm).1 (fmod_range hm).2 ⟨c, ns, a + 1, _, upd_same, by rw [upd_ne ncp]; exact g2' _, h3, by omega, by omega, fdiv_nn hz0 hm⟩ (Keep.upd _ (kE' _))
          · refine ⟨_, rfl, .inl ⟨_, rfl, _, _, rfl, rfl, z1, _, _, rfl, rfl, _, rfl, _, _, rfl, rfl, .inl ⟨by decide, by decide⟩, _, _, rfl, rfl, _, _, rfl, rfl, .inl (mul_okf1 (by decide) (by decide)), ?_⟩⟩
            refine ⟨_, rfl, _, _, rfl, rfl, .inl ⟨by decide, by decide⟩, _, rfl, _, _, rfl, rfl, .inr ⟨by omega, by omega⟩, _, _, rfl, rfl, _, _, rfl, rfl, ?_⟩
            refine ⟨_, rfl, .inl ⟨_, rfl, _, _, rfl, rfl, z2, ?_⟩⟩
            refine ⟨_, rfl, _, rfl, _, _, rfl, rfl, _, _, rfl, rfl, .inl (mul_okf (by decide) (by decide)), .inl ⟨_, rfl, _, _, rfl, rfl, z3, ?_⟩⟩
            refine ⟨_, rfl, _, rfl, _, _, rfl, rfl, .inl (mul_okf (by decide) (by decide)), .inl ⟨_, rfl, _, _, rfl, rfl, z4, ?_⟩⟩
            refine ⟨_, rfl, _, _, rfl, rfl, ⟨by decide, by decide⟩, .inl ⟨_, rfl, _, rfl, _, _, rfl, rfl, m0, ?_⟩⟩
            exact k _ _ (fmod_range hm).1 (fmod_range hm).2 (pen' _) (kE' _)
        · refine ⟨_, rfl, .inl ⟨_, rfl, _, _, rfl, rfl, z1, _, _, rfl, rfl, _, rfl, _, _, rfl, rfl, .inl ⟨by decide, by decide⟩, _, _, rfl, rfl, _, _, rfl, rfl, .inl (mul_okf1 (by decide) (by decide)), ?_⟩⟩
          refine ⟨_, rfl, _, _, rfl, rfl, .inl ⟨by decide, by decide⟩, _, rfl, _, _, rfl, rfl, .inr ⟨by omega, by omega⟩, _, _, rfl, rfl, _, _, rfl, rfl, ?_⟩
          refine ⟨_, rfl, .inl ⟨_, rfl, _, _, rfl, rfl, z2, ?_⟩⟩
          refine ⟨_, rfl, _, rfl, _, _, rfl, rfl, _, _, rfl, rfl, .inl (mul_okf (by decide) (by decide)), .inl ⟨_, rfl, _, _, rfl, rfl, z3, ?_⟩⟩
          refine ⟨_, rfl, _, rfl, _, _, rfl, rfl, .inl (mul_okf (by decide) (by decide)), .inl ⟨_, rfl, _, _, rfl, rfl, z4, ?_⟩⟩
          refine ⟨_, rfl, _, _, rfl, rfl, ⟨by decide, by decide⟩, .inl ⟨_, rfl, _, rfl, _, _, rfl, rfl, m0, ?_⟩⟩
          exact k _ _ (fmod_range hm).1 (fmod_range hm).2 (pen' _) (kE' _)
end
end K21

set_option maxHeartbeats 4000000
namespace K21
open PySem PySem.Spec PyProof.Rows L2 Z
/-! ### sums: each def keeps its promise -/
abbrev FnM (K : PySem.W.Frag) (C m q : Str) (st : Stmt) (fd : FuncData) : Prop := FunD K m q (defArgs st) (defBody st) (defScope st) [] [] (He.ma K (He.ga K C) m) fd
section
variable {P : Program} {w : World} {K : PySem.W.Frag} {mg : Str → Option Value} {base : Heap}
/-- what may be called as Straight(a, b, c) -/
def MkS (P : Program) (w : World) (K : PySem.W.Frag) (mg : Str → Option Value) (base : Heap) : Prop := ∃ fd, FnOk P w K mg base CX0 1 (He.ma K (CS K) "__init__") fd ["self", "i", "n", "one"] (spSI K) ∧ Binds K fd ["self", "i", "n", "one"] []
theorem scStraight__init__ : FnScope ["self", "i", "n", "one"] ["self", "i", "n", "one"] (defScope iStraight__init__) := ⟨rfl, rfl, rfl, by decide +kernel, rfl, by decide +kernel, by decide +kernel⟩
theorem mk_S {fd : FuncData} (T : StTx K mg) (F : FnM K "Straight" "__init__" "Straight.__init__" iStraight__init__ fd) : MkS P w K mg base := by
  refine ⟨fd, ?_, F.bindsN fun _ _ _ _ _ _ us hl => match us, hl with | [_, _, _, _], _ => rfl⟩
  refine F.ok scStraight__init__ (fun vs H Q E h => ?_) (fun cdv A outer s H vs Q E hr h => ?_)
  · obtain ⟨p, dx, a, b, c, rfl, _⟩ := h
    rfl
  · obtain ⟨p, dx, a, b, c, rfl, hp, k⟩ := h
    refine ⟨_, PSs.nox (pss_cons (ps_fld (pv 0) (pv 1) rfl)
      (pss_cons (ps_fld (pv 0) (pv 2) rfl)
      (pss_one (ps_fld (pv 0) (pv 3) rfl)))), ?_⟩
    refine ⟨_, rfl, _, rfl, p, _, dx, [], rfl, hp, T.clS, T.nI, (by show 0 < 1000; decide), ?_⟩
    refine ⟨_, rfl, _, rfl, p, _, dx, _, rfl, upd_same, T.clS, T.nN, (by show 1 < 1000; decide), ?_⟩
    refine ⟨_, rfl, _, rfl, p, _, dx, _, rfl, upd_same, T.clS, T.nO, len2 _ _ _ _, ?_⟩
    exact k _ upd_same (fun b o nb e => by rw [upd_ne nb, upd_ne nb, upd_ne nb]; exact e)
theorem pe_S {X : Cx} {e : Expr} {es : List Expr} {t : TA} {p pos : Pos} {k : Nat} (T : StTx X.K X.mg) (M : MkS X.prog X.w X.K X.mg X.base) (hr : Room k X.A) (ha : PA X (e :: es) t) (hk : 2 ≤ k := by decide) (hg : Gl X "Straight" := by rfl)
    (he : starEach (e :: es) X.env = (false, eval e X.env) :: starEach es X.env := by rfl) (hpl : (backTo pos (starEach es X.env)).any (·.1) = false := by rfl) :
    PE X (.Call (.Name "Straight" p) (e :: es) [] pos) (fun σ H Q => t σ H fun vs H1 => ∃ a b c, vs = [.int a, .int b, .int c] ∧ NewS X.K H1 a b c Q) := by
  obtain ⟨fd, F, hb⟩ := M
  refine ⟨fun pins s σ H Q I h => ?_⟩
  refine wpAny_Call_Name_kw (ld_glob I hg T.gS ?_ (by decide))
  refine PySem.W.callWith_K (h₀ := X.base) I.ok.mod.kin T.mkS.kp (thn (ha.run pos pins s σ H _ I h) fun us s1 ⟨vs, H1, I1, r, a, b, c, ev, q⟩ => ⟨I1.kIn, ?_⟩) he hpl
  subst ev
  exact run_make T.mkS F (hr.mono hk) hb .nil pass0 I1 r fun x dx nx nd ne => ⟨x, dx, a, b, c, rfl, upd_same, fun H' hx kp => ⟨rfl, q x H' (Same.made (Same.refl H1) nx nd kp) nx ⟨dx, hx⟩⟩⟩
theorem sc_is_integer : FnScope ["value"] ["value"] (defScope s_is_integer) := ⟨rfl, rfl, rfl, by decide +kernel, rfl, by decide +kernel, by decide +kernel⟩
theorem ok_isInt {f : Addr} {fd : FuncData} (F : FnP K "is_integer" s_is_integer f fd) (T : StTx K mg) : FnOk P w K mg base CX0 1 f fd ["value"] (spIsInt K) := by
  refine F.ok sc_is_integer (fun vs H Q E h => ?_) (fun cdv A outer s H vs Q E hr h => ?_)
  · obtain ⟨v, rfl, _⟩ := h
    rfl
  · obtain ⟨v, rfl, h⟩ := h
    refine ⟨_, PSs.nox (pss_one (ps_ret (pe_and (pe_callB call_isi (by rfl) T.isi (by decide +kernel) (pa_cons (pv 0) (pa_cons (pe_bltn (v := .ty "int") (by rfl) T.int (by decide +kernel) rfl) pa_nil))) (pe_one (pe_not (pe_callB call_isi (by rfl) T.isi (by decide +kernel) (pa_cons (pv 0) (pa_cons (pe_bltn (v := .ty "bool") (by rfl) T.bool (by decide +kernel) rfl) pa_nil)))))))), ?_⟩
    rcases h with ⟨i, rfl, q⟩ | ⟨p, a, b, c, rfl, hp, q⟩
    · refine ⟨_, rfl, _, _, _, _, _, rfl, .ty _, .base (.int i), kii, _, rfl, iteT ?_⟩
      exact ⟨_, rfl, _, _, _, _, _, rfl, .ty _, .base (.int i), kib, _, rfl, q⟩
    · exact ⟨_, rfl, _, _, _, _, _, rfl, .ty _, .base (T.ty hp), T.kSi, _, rfl, iteF q⟩
theorem sc_is_straight : FnScope ["value"] ["value"] (defScope s_is_straight) := ⟨rfl, rfl, rfl, by decide +kernel, rfl, by decide +kernel, by decide +kernel⟩
theorem ok_isStr {f : Addr} {fd : FuncData} (F : FnP K "is_straight" s_is_straight f fd) (T : StTx K mg) (dIsInt : Dn P w K mg base 1 "is_integer" ["value"] (spIsInt K)) : FnOk P w K mg base CX0 2 f fd ["value"] (spIsStr K) := by
  refine F.ok sc_is_straight (fun vs H Q E h => ?_) (fun cdv A outer s H vs Q E hr h => ?_)
  · obtain ⟨v, _, _, _, rfl, _⟩ := h
    rfl
  · obtain ⟨v, a, b, c, rfl, h, q⟩ := h
    refine ⟨_, PSs.nox (pss_one (ps_ret (pe_or (pe_dn dIsInt hr (pa_cons (pv 0) pa_nil)) (pe_one (pe_callB call_isi (by rfl) T.isi (by decide +kernel) (pa_cons (pv 0) (pa_cons (pe_glob (v := .ref (CS K)) rfl T.gS rfl) pa_nil))))))), ?_⟩
    rcases h with ⟨p, rfl, hp⟩ | ⟨rfl, _, _⟩
    · refine ⟨_, rfl, _, rfl, .inr ⟨p, a, b, c, rfl, hp, _, rfl, iteF ?_⟩⟩
      exact ⟨_, rfl, _, _, _, _, _, rfl, .own _, .base (T.ty hp), T.kSS, q⟩
    · exact ⟨_, rfl, _, rfl, .inl ⟨c, rfl, _, rfl, iteT q⟩⟩
theorem sc_straight_like : FnScope ["value"] ["value"] (defScope s_straight_like) := ⟨rfl, rfl, rfl, by decide +kernel, rfl, by decide +kernel, by decide +kernel⟩
theorem ok_like {f : Addr} {fd : FuncData} (F : FnP K "straight_like" s_straight_like f fd) (T : StTx K mg) (M : MkS P w K mg base) : FnOk P w K mg base CX0 3 f fd ["value"] (spLike K) := by
  refine F.ok sc_straight_like (fun vs H Q E h => ?_) (fun cdv A outer s H vs Q E hr h => ?_)
  · obtain ⟨v, _, _, _, rfl, _⟩ := h
    rfl
  · obtain ⟨v, a, b, c, rfl, h, q⟩ := h
    refine ⟨_, PSs.nox (pss_one (ps_ret (pe_ifExp (pt_val (pe_callB call_isi (by rfl) T.isi (by decide +kernel) (pa_cons (pv 0) (pa_cons (pe_glob (v := .ref (CS K)) rfl T.gS rfl) pa_nil)))) (pv 0) (pe_S T M hr (pa_cons pe_int (pa_cons pe_int (pa_cons (pv 0) pa_nil))))))), ?_⟩
    rcases h with ⟨p, rfl, hp⟩ | ⟨rfl, rfl, rfl⟩
    · refine ⟨_, rfl, _, _, _, _, _, rfl, .own _, .base (T.ty hp), T.kSS, _, rfl, iteT ?_⟩
      exact ⟨_, rfl, q p H (Same.refl H) hp⟩
    · refine ⟨_, rfl, _, _, _, _, _, rfl, .own _, .base (.int c), T.kiS, _, rfl, iteF ?_⟩
      exact ⟨_, rfl, 0, 0, c, rfl, fun p H' s _ hp => q p H' s hp⟩
theorem sc_value_of : FnScope ["straight", "i", "n"] ["straight", "i", "n"] (defScope s_value_of) := ⟨rfl, rfl, rfl, by decide +kernel, rfl, by decide +kernel, by decide +kernel⟩
theorem ok_val {f : Addr} {fd : FuncData} (F : FnP K "value_of" s_value_of f fd) (T : StTx K mg) : FnOk P w K mg base CX0 1 f fd ["straight", "i", "n"] (spValW K) := by
  refine F.ok sc_value_of (fun vs H Q E h => ?_) (fun cdv A outer s H vs Q E hr h => ?_)
  · obtain ⟨p, a, b, c, i, n, rfl, _⟩ := h
    rfl
  · obtain ⟨p, a, b, c, i, n, rfl, ⟨dx, hp⟩, ba, bb, bi, bn, q⟩ := h
    refine ⟨_, PSs.nox (pss_one (ps_ret (pe_op op_add (pe_op op_add (pe_op op_mulW (pe_fld (pv 0) rfl) (pv 1)) (pe_op op_mulW (pe_fld (pv 0) rfl) (pv 2))) (pe_fld (pv 0) rfl)))), ?_⟩
    refine ⟨_, rfl, p, _, dx, _, _, rfl, hp, T.clS, T.nI, sf_i _ _ _, _, rfl, _, _, rfl, rfl, bd_c ba bi, ?_⟩
    refine ⟨_, rfl, p, _, dx, _, _, rfl, hp, T.clS, T.nN, sf_n _ _ _, _, rfl, _, _, rfl, rfl, bd_c bb bn, _, _, rfl, rfl, ?_⟩
    exact ⟨_, rfl, p, _, dx, _, _, rfl, hp, T.clS, T.nO, sf_one _ _ _, _, _, rfl, rfl, q⟩
theorem sc_added : FnScope ["one", "other", "sign"] ["one", "other", "sign"] (defScope s_added) := ⟨rfl, rfl, rfl, by decide +kernel, rfl, by decide +kernel, by decide +kernel⟩
theorem ok_added {f : Addr} {fd : FuncData} (F : FnP K "added" s_added f fd) (T : StTx K mg) (M : MkS P w K mg base) : FnOk P w K mg base CX0 3 f fd ["one", "other", "sign"] (spAdded K) := by
  refine F.ok sc_added (fun vs H Q E h => ?_) (fun cdv A outer s H vs Q E hr h => ?_)
  · obtain ⟨p, q, a, b, c, x, y, z, s, rfl, _⟩ := h
    rfl
  · obtain ⟨p, q, a, b, c, x, y, z, s, rfl, ⟨dx, hp⟩, ⟨dy, hq⟩, ss, k⟩ := h
    refine ⟨_, PSs.nox (pss_one (ps_ret (pe_S T M hr (pa_cons (pe_op op_add (pe_fld (pv 0) rfl) (pe_op op_mul (pv 2) (pe_fld (pv 1) rfl))) (pa_cons (pe_op op_add (pe_fld (pv 0) rfl) (pe_op op_mul (pv 2) (pe_fld (pv 1) rfl))) (pa_cons (pe_op op_add (pe_fld (pv 0) rfl) (pe_op op_mul (pv 2) (pe_fld (pv 1) rfl))) pa_nil)))))), ?_⟩
    refine ⟨_, rfl, p, _, dx, _, _, rfl, hp, T.clS, T.nI, sf_i _ _ _, _, rfl, _, rfl, q, _, dy, _, _, rfl, hq, T.clS, T.nI, sf_i _ _ _, _, _, rfl, rfl, .inl ss, _, _, rfl, rfl, ?_⟩
    refine ⟨_, rfl, p, _, dx, _, _, rfl, hp, T.clS, T.nN, sf_n _ _ _, _, rfl, _, rfl, q, _, dy, _, _, rfl, hq, T.clS, T.nN, sf_n _ _ _, _, _, rfl, rfl, .inl ss, _, _, rfl, rfl, ?_⟩
    refine ⟨_, rfl, p, _, dx, _, _, rfl, hp, T.clS, T.nO, sf_one _ _ _, _, rfl, _, rfl, q, _, dy, _, _, rfl, hq, T.clS, T.nO, sf_one _ _ _, _, _, rfl, rfl, .inl ss, _, _, rfl, rfl, ?_⟩
    exact ⟨_, _, _, rfl, k⟩
theorem sc_replaced_straight : FnScope ["straight", "factor", "shift"] ["straight", "factor", "shift"] (defScope s_replaced_straight) := ⟨rfl, rfl, rfl, by decide +kernel, rfl, by decide +kernel, by decide +kernel⟩
theorem ok_repl {f : Addr} {fd : FuncData} (F : FnP K "replaced_straight" s_replaced_straight f fd) (T : StTx K mg) (M : MkS P w K mg base) : FnOk P w K mg base CX0 3 f fd ["straight", "factor", "shift"] (spReplW K) := by
  refine F.ok sc_replaced_straight (fun vs H Q E h => ?_) (fun cdv A outer s H vs Q E hr h => ?_)
  · obtain ⟨p, a, b, c, f, g, rfl, _⟩ := h
    rfl
  · obtain ⟨p, a, b, c, f, g, rfl, ⟨dx, hp⟩, ba, bf, bg, k⟩ := h
    refine ⟨_, PSs.nox (pss_one (ps_ret (pe_S T M hr (pa_cons (pe_op op_mulW (pe_fld (pv 0) rfl) (pv 1)) (pa_cons (pe_fld (pv 0) rfl) (pa_cons (pe_op op_add (pe_fld (pv 0) rfl) (pe_op op_mulW (pe_fld (pv 0) rfl) (pv 2))) pa_nil)))))), ?_⟩
    refine ⟨_, rfl, p, _, dx, _, _, rfl, hp, T.clS, T.nI, sf_i _ _ _, _, rfl, _, _, rfl, rfl, bd_c ba bf, ?_⟩
    refine ⟨_, rfl, p, _, dx, _, _, rfl, hp, T.clS, T.nN, sf_n _ _ _, ?_⟩
    refine ⟨_, rfl, p, _, dx, _, _, rfl, hp, T.clS, T.nO, sf_one _ _ _, _, rfl, p, _, dx, _, _, rfl, hp, T.clS, T.nI, sf_i _ _ _, _, rfl, _, _, rfl, rfl, bd_c ba bg, _, _, rfl, rfl, ?_⟩
    exact ⟨_, _, _, rfl, k⟩
theorem scStraight__eq__ : FnScope ["self", "other"] ["self", "other"] (defScope iStraight__eq__) := ⟨rfl, rfl, rfl, by decide +kernel, rfl, by decide +kernel, by decide +kernel⟩
theorem om_SEq {fd : FuncData} (F : FnM K "Straight" "__eq__" "Straight.__eq__" iStraight__eq__ fd) (T : StTx K mg) (hm : Meth K (CS K) "__eq__" (He.ma K (CS K) "__eq__")) : Om P w K mg base (CS K) 1 "__eq__" (spSEq K) := by
  refine ⟨_, fd, ["self", "other"], ?_, hm.at_, hm.fn, F.bindsN fun _ _ _ _ _ _ us hl => match us, hl with | [_, _], _ => rfl⟩
  refine F.ok scStraight__eq__ (fun vs H Q E h => ?_) (fun cdv A outer s H vs Q E hr h => ?_)
  · obtain ⟨p, a, b, c, v, rfl, _⟩ := h
    rfl
  · obtain ⟨p, a, b, c, v, rfl, hS, h⟩ := h
    refine ⟨_, PSs.nox (pss_one (ps_ret (pe_and (pe_callB call_isi (by rfl) T.isi (by decide +kernel) (pa_cons (pv 1) (pa_cons (pe_glob (v := .ref (CS K)) rfl T.gS rfl) pa_nil))) (pe_and (pe_cmpR op_eq (pe_fld (pv 0) rfl) (pe_fld (pv 1) rfl) (nomark _)) (pe_and (pe_cmpR op_eq (pe_fld (pv 0) rfl) (pe_fld (pv 1) rfl) (nomark _)) (pe_one (pe_cmpR op_eq (pe_fld (pv 0) rfl) (pe_fld (pv 1) rfl) (nomark _)))))))), ?_⟩
    obtain ⟨dx, hp⟩ := id hS
    rcases h with ⟨q, x, y, z, rfl, hS2, k⟩ | ⟨t, ty, kt, k⟩
    · obtain ⟨dy, hq⟩ := id hS2
      refine ⟨_, rfl, _, _, _, _, _, rfl, .own _, .base (T.ty hS2), T.kSS, _, rfl, iteT ?_⟩
      refine ⟨_, rfl, p, _, dx, _, _, rfl, hp, T.clS, T.nI, sf_i _ _ _, _, rfl, q, _, dy, _, _, rfl, hq, T.clS, T.nI, sf_i _ _ _, rfl, _, rfl, ?_⟩
      by_cases h1 : a = x
      · subst h1
        rw [decide_eq_true rfl]
        refine iteT ?_
        refine ⟨_, rfl, p, _, dx, _, _, rfl, hp, T.clS, T.nN, sf_n _ _ _, _, rfl, q, _, dy, _, _, rfl, hq, T.clS, T.nN, sf_n _ _ _, rfl, _, rfl, ?_⟩
        by_cases h2 : b = y
        · subst h2
          rw [decide_eq_true rfl]
          refine iteT ?_
          refine ⟨_, rfl, p, _, dx, _, _, rfl, hp, T.clS, T.nO, sf_one _ _ _, _, rfl, q, _, dy, _, _, rfl, hq, T.clS, T.nO, sf_one _ _ _, rfl, ?_⟩
          have e : decide (V.int c = V.int z) = decide (a = a ∧ b = b ∧ c = z) := decide_eq_decide.mpr ⟨fun q => ⟨rfl, rfl, V.int.inj q⟩, fun q => by rw [q.2.2]⟩
          show Q (.bl (decide (V.int c = V.int z))) H
          rw [e]
          exact k
        · have e : decide (a = a ∧ b = y ∧ c = z) = false := decide_eq_false fun q => h2 q.2.1
          rw [e] at k
          rw [decide_eq_false (fun q => h2 (V.int.inj q))]
          exact iteF k
      · have e : decide (a = x ∧ b = y ∧ c = z) = false := decide_eq_false fun q => h1 q.1
        rw [e] at k
        rw [decide_eq_false (fun q => h1 (V.int.inj q))]
        exact iteF k
    · exact ⟨_, rfl, _, _, _, _, _, rfl, .own _, .base ty, kt, _, rfl, iteF k⟩
theorem scStraight__add__ : FnScope ["self", "other"] ["self", "other"] (defScope iStraight__add__) := ⟨rfl, rfl, rfl, by decide +kernel, rfl, by decide +kernel, by decide +kernel⟩
theorem om_SAdd {fd : FuncData} (F : FnM K "Straight" "__add__" "Straight.__add__" iStraight__add__ fd) (T : StTx K mg) (hm : Meth K (CS K) "__add__" (He.ma K (CS K) "__add__")) (dIsStr : Dn P w K mg base 2 "is_straight" ["value"] (spIsStr K)) (dLike : Dn P w K mg base 3 "straight_like" ["value"] (spLike K)) (dAdded : Dn P w K mg base 3 "added" ["one", "other", "sign"] (spAdded K)) : Om P w K mg base (CS K) 4 (dunder "add") (spSAdd K) := by
  refine ⟨_, fd, ["self", "other"], ?_, (by rw [show dunder "add" = ("__add__" : Str) by decide +kernel]; exact hm.at_), hm.fn, F.bindsN fun _ _ _ _ _ _ us hl => match us, hl with | [_, _], _ => rfl⟩
  refine F.ok scStraight__add__ (fun vs H Q E h => ?_) (fun cdv A outer s H vs Q E hr h => ?_)
  · obtain ⟨p, a, b, c, x, y, z, v, rfl, _⟩ := h
    rfl
  · obtain ⟨p, a, b, c, x, y, z, v, rfl, hS, hv, k⟩ := h
    refine ⟨_, PSs.nox (pss_cons (ps_if (pt_not (pt_val (pe_dn dIsStr hr (pa_cons (pv 1) pa_nil)))) (pss_one ps_never) pss_nil)
      (pss_one (ps_ret (pe_dn dAdded hr (pa_cons (pv 0) (pa_cons (pe_dn dLike hr (pa_cons (pv 1) pa_nil)) (pa_cons pe_int pa_nil))))))), ?_⟩
    refine ⟨_, rfl, v, x, y, z, rfl, hv, _, rfl, iteF ?_⟩
    refine ⟨_, rfl, _, rfl, v, x, y, z, rfl, hv, fun q H1 s1 hq => ⟨p, q, a, b, c, x, y, z, 1, rfl, hS.same s1, hq, by unfold Sm; omega, fun r H2 s2 _ hr2 => ?_⟩⟩
    rw [Int.one_mul, Int.one_mul, Int.one_mul] at hr2
    exact k r H2 (s1.trans s2) hr2
theorem scStraight__sub__ : FnScope ["self", "other"] ["self", "other"] (defScope iStraight__sub__) := ⟨rfl, rfl, rfl, by decide +kernel, rfl, by decide +kernel, by decide +kernel⟩
theorem om_SSub {fd : FuncData} (F : FnM K "Straight" "__sub__" "Straight.__sub__" iStraight__sub__ fd) (T : StTx K mg) (hm : Meth K (CS K) "__sub__" (He.ma K (CS K) "__sub__")) (dIsStr : Dn P w K mg base 2 "is_straight" ["value"] (spIsStr K)) (dLike : Dn P w K mg base 3 "straight_like" ["value"] (spLike K)) (dAdded : Dn P w K mg base 3 "added" ["one", "other", "sign"] (spAdded K)) : Om P w K mg base (CS K) 4 (dunder "sub") (spSSub K) := by
  refine ⟨_, fd, ["self", "other"], ?_, (by rw [show dunder "sub" = ("__sub__" : Str) by decide +kernel]; exact hm.at_), hm.fn, F.bindsN fun _ _ _ _ _ _ us hl => match us, hl with | [_, _], _ => rfl⟩
  refine F.ok scStraight__sub__ (fun vs H Q E h => ?_) (fun cdv A outer s H vs Q E hr h => ?_)
  · obtain ⟨p, a, b, c, x, y, z, v, rfl, _⟩ := h
    rfl
  · obtain ⟨p, a, b, c, x, y, z, v, rfl, hS, hv, k⟩ := h
    refine ⟨_, PSs.nox (pss_cons (ps_if (pt_not (pt_val (pe_dn dIsStr hr (pa_cons (pv 1) pa_nil)))) (pss_one ps_never) pss_nil)
      (pss_one (ps_ret (pe_dn dAdded hr (pa_cons (pv 0) (pa_cons (pe_dn dLike hr (pa_cons (pv 1) pa_nil)) (pa_cons (pe_un un_neg pe_int) pa_nil))))))), ?_⟩
    refine ⟨_, rfl, v, x, y, z, rfl, hv, _, rfl, iteF ?_⟩
    refine ⟨_, rfl, _, rfl, v, x, y, z, rfl, hv, fun q H1 s1 hq => ⟨_, rfl, p, q, a, b, c, x, y, z, -1, rfl, hS.same s1, hq, by unfold Sm; omega, fun r H2 s2 _ hr2 => ?_⟩⟩
    rw [show a + -1 * x = a - x by omega, show b + -1 * y = b - y by omega, show c + -1 * z = c - z by omega] at hr2
    exact k r H2 (s1.trans s2) hr2
theorem scStraight__radd__ : FnScope ["self", "other"] ["self", "other"] (defScope iStraight__radd__) := ⟨rfl, rfl, rfl, by decide +kernel, rfl, by decide +kernel, by decide +kernel⟩
theorem om_Sradd {fd : FuncData} (F : FnM K "Straight" "__radd__" "Straight.__radd__" iStraight__radd__ fd) (T : StTx K mg) (hm : Meth K (CS K) "__radd__" (He.ma K (CS K) "__radd__")) (dIsStr : Dn P w K mg base 2 "is_straight" ["value"] (spIsStr K)) (dLike : Dn P w K mg base 3 "straight_like" ["value"] (spLike K)) (dAdded : Dn P w K mg base 3 "added" ["one", "other", "sign"] (spAdded K)) : Om P w K mg base (CS K) 4 (dunderR "add") (spSRadd K) := by
  refine ⟨_, fd, ["self", "other"], ?_, (by rw [show dunderR "add" = ("__radd__" : Str) by decide +kernel]; exact hm.at_), hm.fn, F.bindsN fun _ _ _ _ _ _ us hl => match us, hl with | [_, _], _ => rfl⟩
  refine F.ok scStraight__radd__ (fun vs H Q E h => ?_) (fun cdv A outer s H vs Q E hr h => ?_)
  · obtain ⟨p, a, b, c, x, y, z, v, rfl, _⟩ := h
    rfl
  · obtain ⟨p, a, b, c, x, y, z, v, rfl, hS, hv, k⟩ := h
    refine ⟨_, PSs.nox (pss_cons (ps_if (pt_not (pt_val (pe_dn dIsStr hr (pa_cons (pv 1) pa_nil)))) (pss_one ps_never) pss_nil)
      (pss_one (ps_ret (pe_dn dAdded hr (pa_cons (pe_dn dLike hr (pa_cons (pv 1) pa_nil)) (pa_cons (pv 0) (pa_cons pe_int pa_nil))))))), ?_⟩
    refine ⟨_, rfl, v, x, y, z, rfl, hv, _, rfl, iteF ?_⟩
    refine ⟨_, rfl, v, x, y, z, rfl, hv, fun q H1 s1 hq => ⟨_, rfl, q, p, x, y, z, a, b, c, 1, rfl, hq, hS.same s1, by unfold Sm; omega, fun r H2 s2 _ hr2 => ?_⟩⟩
    rw [show x + 1 * a = x + a by omega, show y + 1 * b = y + b by omega, show z + 1 * c = z + c by omega] at hr2
    exact k r H2 (s1.trans s2) hr2
theorem scStraight__rsub__ : FnScope ["self", "other"] ["self", "other"] (defScope iStraight__rsub__) := ⟨rfl, rfl, rfl, by decide +kernel, rfl, by decide +kernel, by decide +kernel⟩
theorem om_Srsub {fd : FuncData} (F : FnM K "Straight" "__rsub__" "Straight.__rsub__" iStraight__rsub__ fd) (T : StTx K mg) (hm : Meth K (CS K) "__rsub__" (He.ma K (CS K) "__rsub__")) (dIsStr : Dn P w K mg base 2 "is_straight" ["value"] (spIsStr K)) (dLike : Dn P w K mg base 3 "straight_like" ["value"] (spLike K)) (dAdded : Dn P w K mg base 3 "added" ["one", "other", "sign"] (spAdded K)) : Om P w K mg base (CS K) 4 (dunderR "sub") (spSRsub K) := by
  refine ⟨_, fd, ["self", "other"], ?_, (by rw [show dunderR "sub" = ("__rsub__" : Str) by decide +kernel]; exact hm.at_), hm.fn, F.bindsN fun _ _ _ _ _ _ us hl => match us, hl with | [_, _], _ => rfl⟩
  refine F.ok scStraight__rsub__ (fun vs H Q E h => ?_) (fun cdv A outer s H vs Q E hr h => ?_)
  · obtain ⟨p, a, b, c, x, y, z, v, rfl, _⟩ := h
    rfl
  · obtain ⟨p, a, b, c, x, y, z, v, rfl, hS, hv, k⟩ := h
    refine ⟨_, PSs.nox (pss_cons (ps_if (pt_not (pt_val (pe_dn dIsStr hr (pa_cons (pv 1) pa_nil)))) (pss_one ps_never) pss_nil)
      (pss_one (ps_ret (pe_dn dAdded hr (pa_cons (pe_dn dLike hr (pa_cons (pv 1) pa_nil)) (pa_cons (pv 0) (pa_cons (pe_un un_neg pe_int) pa_nil))))))), ?_⟩
    refine ⟨_, rfl, v, x, y, z, rfl, hv, _, rfl, iteF ?_⟩
    refine ⟨_, rfl, v, x, y, z, rfl, hv, fun q H1 s1 hq => ⟨_, rfl, _, rfl, q, p, x, y, z, a, b, c, -1, rfl, hq, hS.same s1, by unfold Sm; omega, fun r H2 s2 _ hr2 => ?_⟩⟩
    rw [show x + -1 * a = x - a by omega, show y + -1 * b = y - b by omega, show z + -1 * c = z - c by omega] at hr2
    exact k r H2 (s1.trans s2) hr2
theorem scStraight__neg__ : FnScope ["self"] ["self"] (defScope iStraight__neg__) := ⟨rfl, rfl, rfl, by decide +kernel, rfl, by decide +kernel, by decide +kernel⟩
theorem om_SNeg {fd : FuncData} (F : FnM K "Straight" "__neg__" "Straight.__neg__" iStraight__neg__ fd) (T : StTx K mg) (M : MkS P w K mg base) (hm : Meth K (CS K) "__neg__" (He.ma K (CS K) "__neg__")) : Om P w K mg base (CS K) 3 "__neg__" (spSNeg K) := by
  refine ⟨_, fd, ["self"], ?_, hm.at_, hm.fn, F.bindsN fun _ _ _ _ _ _ us hl => match us, hl with | [_], _ => rfl⟩
  refine F.ok scStraight__neg__ (fun vs H Q E h => ?_) (fun cdv A outer s H vs Q E hr h => ?_)
  · obtain ⟨p, a, b, c, rfl, _⟩ := h
    rfl
  · obtain ⟨p, a, b, c, rfl, ⟨dx, hp⟩, k⟩ := h
    refine ⟨_, PSs.nox (pss_one (ps_ret (pe_S T M hr (pa_cons (pe_un un_neg (pe_fld (pv 0) rfl)) (pa_cons (pe_un un_neg (pe_fld (pv 0) rfl)) (pa_cons (pe_un un_neg (pe_fld (pv 0) rfl)) pa_nil)))))), ?_⟩
    refine ⟨_, rfl, p, _, dx, _, _, rfl, hp, T.clS, T.nI, sf_i _ _ _, _, rfl, ?_⟩
    refine ⟨_, rfl, p, _, dx, _, _, rfl, hp, T.clS, T.nN, sf_n _ _ _, _, rfl, ?_⟩
    refine ⟨_, rfl, p, _, dx, _, _, rfl, hp, T.clS, T.nO, sf_one _ _ _, _, rfl, ?_⟩
    exact ⟨_, _, _, rfl, k⟩
theorem scStraight__mul__ : FnScope ["self", "other"] ["self", "other"] (defScope iStraight__mul__) := ⟨rfl, rfl, rfl, by decide +kernel, rfl, by decide +kernel, by decide +kernel⟩
theorem om_Smul {fd : FuncData} (F : FnM K "Straight" "__mul__" "Straight.__mul__" iStraight__mul__ fd) (T : StTx K mg) (M : MkS P w K mg base) (hm : Meth K (CS K) "__mul__" (He.ma K (CS K) "__mul__")) (dIsInt : Dn P w K mg base 1 "is_integer" ["value"] (spIsInt K)) : Om P w K mg base (CS K) 3 (dunder "mul") (spSMulW K) := by
  refine ⟨_, fd, ["self", "other"], ?_, (by rw [show dunder "mul" = ("__mul__" : Str) by decide +kernel]; exact hm.at_), hm.fn, F.bindsN fun _ _ _ _ _ _ us hl => match us, hl with | [_, _], _ => rfl⟩
  refine F.ok scStraight__mul__ (fun vs H Q E h => ?_) (fun cdv A outer s H vs Q E hr h => ?_)
  · obtain ⟨p, a, b, c, k, rfl, _⟩ := h
    rfl
  · obtain ⟨p, a, b, c, k, rfl, hS, bk, ba, bb, bc, q⟩ := h
    obtain ⟨dx, hp⟩ := id hS
    refine ⟨_, PSs.nox (pss_cons (ps_if (pt_not (pt_val (pe_dn dIsInt hr (pa_cons (pv 1) pa_nil)))) (pss_one ps_never) pss_nil)
      (pss_one (ps_ret (pe_S T M hr (pa_cons (pe_op op_mulW (pe_fld (pv 0) rfl) (pv 1)) (pa_cons (pe_op op_mulW (pe_fld (pv 0) rfl) (pv 1)) (pa_cons (pe_op op_mulW (pe_fld (pv 0) rfl) (pv 1)) pa_nil))))))), ?_⟩
    refine ⟨_, rfl, _, rfl, .inl ⟨k, rfl, _, rfl, iteF ?_⟩⟩
    refine ⟨_, rfl, p, _, dx, _, _, rfl, hp, T.clS, T.nI, sf_i _ _ _, _, rfl, _, _, rfl, rfl, bd_c ba bk, ?_⟩
    refine ⟨_, rfl, p, _, dx, _, _, rfl, hp, T.clS, T.nN, sf_n _ _ _, _, rfl, _, _, rfl, rfl, bd_c bb bk, ?_⟩
    refine ⟨_, rfl, p, _, dx, _, _, rfl, hp, T.clS, T.nO, sf_one _ _ _, _, rfl, _, _, rfl, rfl, bd_c bc bk, ?_⟩
    exact ⟨_, _, _, rfl, q⟩
theorem scStraight__rmul__ : FnScope ["self", "other"] ["self", "other"] (defScope iStraight__rmul__) := ⟨rfl, rfl, rfl, by decide +kernel, rfl, by decide +kernel, by decide +kernel⟩
theorem om_Srmul {fd : FuncData} (F : FnM K "Straight" "__rmul__" "Straight.__rmul__" iStraight__rmul__ fd) (T : StTx K mg) (M : MkS P w K mg base) (hm : Meth K (CS K) "__rmul__" (He.ma K (CS K) "__rmul__")) (dIsInt : Dn P w K mg base 1 "is_integer" ["value"] (spIsInt K)) : Om P w K mg base (CS K) 3 (dunderR "mul") (spSMulW K) := by
  refine ⟨_, fd, ["self", "other"], ?_, (by rw [show dunderR "mul" = ("__rmul__" : Str) by decide +kernel]; exact hm.at_), hm.fn, F.bindsN fun _ _ _ _ _ _ us hl => match us, hl with | [_, _], _ => rfl⟩
  refine F.ok scStraight__rmul__ (fun vs H Q E h => ?_) (fun cdv A outer s H vs Q E hr h => ?_)
  · obtain ⟨p, a, b, c, k, rfl, _⟩ := h
    rfl
  · obtain ⟨p, a, b, c, k, rfl, hS, bk, ba, bb, bc, q⟩ := h
    obtain ⟨dx, hp⟩ := id hS
    refine ⟨_, PSs.nox (pss_cons (ps_if (pt_not (pt_val (pe_dn dIsInt hr (pa_cons (pv 1) pa_nil)))) (pss_one ps_never) pss_nil)
      (pss_one (ps_ret (pe_S T M hr (pa_cons (pe_op op_mulW (pe_fld (pv 0) rfl) (pv 1)) (pa_cons (pe_op op_mulW (pe_fld (pv 0) rfl) (pv 1)) (pa_cons (pe_op op_mulW (pe_fld (pv 0) rfl) (pv 1)) pa_nil))))))), ?_⟩
    refine ⟨_, rfl, _, rfl, .inl ⟨k, rfl, _, rfl, iteF ?_⟩⟩
    refine ⟨_, rfl, p, _, dx, _, _, rfl, hp, T.clS, T.nI, sf_i _ _ _, _, rfl, _, _, rfl, rfl, bd_c ba bk, ?_⟩
    refine ⟨_, rfl, p, _, dx, _, _, rfl, hp, T.clS, T.nN, sf_n _ _ _, _, rfl, _, _, rfl, rfl, bd_c bb bk, ?_⟩
    refine ⟨_, rfl, p, _, dx, _, _, rfl, hp, T.clS, T.nO, sf_one _ _ _, _, rfl, _, _, rfl, rfl, bd_c bc bk, ?_⟩
    exact ⟨_, _, _, rfl, q⟩
theorem scStraight__call__ : FnScope ["self", "i", "n"] ["self", "i", "n"] (defScope iStraight__call__) := ⟨rfl, rfl, rfl, by decide +kernel, rfl, by decide +kernel, by decide +kernel⟩
theorem ok_SCall {fd : FuncData} (F : FnM K "Straight" "__call__" "Straight.__call__" iStraight__call__ fd) (T : StTx K mg) (dVal : Dn P w K mg base 1 "value_of" ["straight", "i", "n"] (spValW K)) : FnOk P w K mg base CX0 2 (He.ma K (CS K) "__call__") fd ["self", "i", "n"] (spValW K) := by
  refine F.ok scStraight__call__ (fun vs H Q E h => ?_) (fun cdv A outer s H vs Q E hr h => ?_)
  · obtain ⟨p, a, b, c, i, n, rfl, _⟩ := h
    rfl
  · obtain ⟨p, a, b, c, i, n, rfl, hS, ba, bb, bi, bn, k⟩ := h
    exact ⟨_, PSs.nox (pss_one (ps_ret (pe_dn dVal hr (pa_cons (pv 0) (pa_cons (pv 1) (pa_cons (pv 2) pa_nil)))))), _, rfl, _, rfl, _, rfl, p, a, b, c, i, n, rfl, hS, ba, bb, bi, bn, k⟩
theorem scStraightreplaced : FnScope ["self", "factor", "shift"] ["self", "factor", "shift"] (defScope iStraightreplaced) := ⟨rfl, rfl, rfl, by decide +kernel, rfl, by decide +kernel, by decide +kernel⟩
theorem ok_SRepl {fd : FuncData} (F : FnM K "Straight" "replaced" "Straight.replaced" iStraightreplaced fd) (T : StTx K mg) (dRepl : Dn P w K mg base 3 "replaced_straight" ["straight", "factor", "shift"] (spReplW K)) : FnOk P w K mg base CX0 4 (He.ma K (CS K) "replaced") fd ["self", "factor", "shift"] (spReplW K) := by
  refine F.ok scStraightreplaced (fun vs H Q E h => ?_) (fun cdv A outer s H vs Q E hr h => ?_)
  · obtain ⟨p, a, b, c, f, g, rfl, _⟩ := h
    rfl
  · obtain ⟨p, a, b, c, f, g, rfl, hS, ba, bf, bg, k⟩ := h
    exact ⟨_, PSs.nox (pss_one (ps_ret (pe_dn dRepl hr (pa_cons (pv 0) (pa_cons (pv 1) (pa_cons (pv 2) pa_nil)))))), _, rfl, _, rfl, _, rfl, p, a, b, c, f, g, rfl, hS, ba, bf, bg, k⟩
end
end K21

set_option maxHeartbeats 4000000
namespace K21
open PySem PySem.Spec PyProof.Rows L2 Z
section
variable {P : Program} {w : World} {K : PySem.W.Frag} {mg : Str → Option Value} {base : Heap}
theorem sc_is_integer_from : FnScope ["value", "low", "high"] ["value", "low", "high"] (defScope s_is_integer_from) := ⟨rfl, rfl, rfl, by decide +kernel, rfl, by decide +kernel, by decide +kernel⟩
theorem ok_intFrom {f : Addr} {fd : FuncData} (F : FnP K "is_integer_from" s_is_integer_from f fd) (dIsInt : Dn P w K mg base 1 "is_integer" ["value"] (spIsInt K)) : FnOk P w K mg base CX0 2 f fd ["value", "low", "high"] spIntFrom := by
  refine F.ok sc_is_integer_from (fun vs H Q E h => ?_) (fun cdv A outer s H vs Q E hr h => ?_)
  · obtain ⟨v, lo, hi, rfl, _⟩ := h
    rfl
  · obtain ⟨v, lo, hi, rfl, k⟩ := h
    refine ⟨_, PSs.nox (pss_one (ps_ret (pe_and (pe_dn dIsInt hr (pa_cons (pv 0) pa_nil)) (pe_one (pe_chain op_le op_le (pv 1) (pv 0) (pv 2)))))), ?_⟩
    refine ⟨_, rfl, _, rfl, .inl ⟨v, rfl, _, rfl, iteT ?_⟩⟩
    refine ⟨_, rfl, _, rfl, _, _, rfl, rfl, _, rfl, ite2 (fun h => ?_) (fun h => ?_)⟩
    · have h1 : lo ≤ v := of_decide_eq_true h
      refine ⟨_, rfl, _, _, rfl, rfl, ?_⟩
      rw [show decide (lo ≤ v ∧ v ≤ hi) = decide (v ≤ hi) from decide_eq_decide.mpr ⟨fun z => z.2, fun z => ⟨h1, z⟩⟩] at k
      exact k
    · have h1 : ¬ lo ≤ v := fun z => h (decide_eq_true z)
      rw [decide_eq_false (fun z => h1 z.1)] at k
      exact k
theorem scBadNumber__init__ : FnScope ["self", "what", "number"] ["self", "what", "number"] (defScope iBadNumber__init__) := ⟨rfl, rfl, rfl, by decide +kernel, rfl, by decide +kernel, by decide +kernel⟩
theorem mxBadNumber {fd : FuncData} (T : EC K mg "BadNumber" ["what", "number"]) (F : FnM K "BadNumber" "__init__" "BadNumber.__init__" iBadNumber__init__ fd) : Mx P w K mg base "BadNumber" ["self", "what", "number"] ["what", "number"] := by
  refine ⟨T, fd, ?_, F.bindsN fun _ _ _ _ _ _ us hl => match us, hl with | [_, _, _], _ => rfl⟩
  refine F.ok scBadNumber__init__ (fun vs H Q E h => ?_) (fun cdv A outer s H vs Q E hr h => ⟨_, PSs.nox (pss_cons (ps_ost (pv 0) (pv 1)) (pss_one (ps_ost (pv 0) (pv 2)))), rd_err2 T h⟩)
  obtain ⟨a, ws, rfl, e, _⟩ := h
  rw [List.length_cons, e]
  rfl
/-- what may be called as AtLeast(v) -/
def MkA (P : Program) (w : World) (K : PySem.W.Frag) (mg : Str → Option Value) (base : Heap) : Prop := ∃ fd, FnOk P w K mg base CX0 4 (He.ma K (CA K) "__init__") fd ["self", "straight"] (spAI K) ∧ Binds K fd ["self", "straight"] []
theorem scAtLeast__init__ : FnScope ["self", "straight", "told", "common"] ["self", "straight"] (defScope iAtLeast__init__) := ⟨rfl, rfl, rfl, by decide +kernel, rfl, by decide +kernel, by decide +kernel⟩
theorem mk_A {fd : FuncData} (T : CoTx K mg) (M : MkS P w K mg base) (dLike : Dn P w K mg base 3 "straight_like" ["value"] (spLike K)) (F : FnM K "AtLeast" "__init__" "AtLeast.__init__" iAtLeast__init__ fd) : MkA P w K mg base := by
  refine ⟨fd, ?_, F.bindsN fun _ _ _ _ _ _ us hl => match us, hl with | [_, _], _ => rfl⟩
  refine F.ok scAtLeast__init__ (fun vs H Q E h => ?_) (fun cdv A outer s H vs Q E hr h => ?_)
  · obtain ⟨p, dx, v, a, b, c, rfl, _⟩ := h
    rfl
  · obtain ⟨p, dx, v, a, b, c, rfl, hp, hv, hg, k⟩ := h
    refine ⟨_, PSs.nox (pss_cons (ps_set (i := 2) scAtLeast__init__.nd rfl (Or.inl rfl) (pe_dn dLike hr (pa_cons (pv 1) pa_nil)))
      (pss_cons (ps_set (i := 3) scAtLeast__init__.nd rfl (Or.inl rfl) (pe_callBfun cr_gcd (by rfl) T.gcd (pa_cons (pe_fld (pv 2) rfl) (pa_cons (pe_fld (pv 2) rfl) pa_nil))))
      (pss_one (ps_if (pt_cmpR op_eq (pv 3) pe_int (nomark _)) (pss_one (ps_fld (pv 0) (pe_S T.toStTx M hr (pa_cons pe_int (pa_cons pe_int (pa_cons (pe_ifExp (pt_cmpR op_ge (pe_fld (pv 2) rfl) pe_int (nomark _)) pe_int (pe_un un_neg pe_int)) pa_nil)))) rfl)) (pss_one (ps_fld (pv 0) (pe_S T.toStTx M hr (pa_cons (pe_op op_fdivN (pe_fld (pv 2) rfl) (pv 3)) (pa_cons (pe_op op_fdivN (pe_fld (pv 2) rfl) (pv 3)) (pa_cons (pe_op op_fdivN (pe_fld (pv 2) rfl) (pv 3)) pa_nil)))) rfl)))))), ?_⟩
    refine ⟨_, rfl, v, a, b, c, rfl, hv, fun q H1 s1 hq => ?_⟩
    obtain ⟨dq, hq⟩ := hq
    refine ⟨_, rfl, q, _, dq, _, _, rfl, hq, T.clS, T.nI, sf_i _ _ _, _, rfl, q, _, dq, _, _, rfl, hq, T.clS, T.nN, sf_n _ _ _, _, _, rfl, ?_⟩
    have go : ∀ (x y z : Int), x = a.fdiv (g2 a b) → y = b.fdiv (g2 a b) → z = lf3 a b c → ∀ (r : Addr) (H2 : Hp), Same H1 H2 → H1 r = none → StrAt K H2 r x y z → Q .non (upd H2 p (.ins (CA K) dx (af r))) := by
      intro x y z ex ey ez r H2 s2 hr1 hr2
      subst ex ey ez
      have hp2 : H2 p = some (.ins (CA K) dx []) := s2 _ _ (s1 _ _ hp)
      have npr : r ≠ p := fun z => by
        rw [z, s1 _ _ hp] at hr1
        cases hr1
      obtain ⟨dr, hr3⟩ := hr2
      refine k r _ upd_same ⟨dr, by rw [upd_ne npr]; exact hr3⟩ (fun b o nb e => ?_)
      rw [upd_ne nb]
      exact s2 _ _ (s1 _ _ e)
    refine ⟨_, rfl, rfl, _, rfl, ite2 (fun h0 => ?_) (fun h0 => ?_)⟩
    · have z0 : g2 a b = 0 := by
        have z : ((g2 a b : Nat) : Int) = 0 := V.int.inj (of_decide_eq_true h0)
        omega
      obtain ⟨rfl, rfl⟩ := g2_zero z0
      refine ⟨_, rfl, q, _, dq, _, _, rfl, hq, T.clS, T.nO, sf_one _ _ _, _, _, rfl, rfl, ?_⟩
      refine ⟨_, rfl, ite2 (fun hc => ?_) (fun hc => ?_)⟩
      · have hc1 : 0 ≤ c := of_decide_eq_true hc
        refine ⟨0, 0, 0, rfl, fun r H2 s2 hr1 hr2 => ?_⟩
        refine ⟨_, rfl, p, _, dx, _, rfl, s2 _ _ (s1 _ _ hp), T.clA, T.nAS, (by show 0 < 1000; decide), ?_⟩
        exact go 0 0 0 (by rw [Int.zero_fdiv]) (by rw [Int.zero_fdiv]) (by unfold lf3; rw [if_pos z0, if_pos hc1]) r H2 s2 hr1 hr2
      · have hc1 : ¬ 0 ≤ c := fun z => hc (decide_eq_true z)
        refine ⟨_, rfl, 0, 0, -1, rfl, fun r H2 s2 hr1 hr2 => ?_⟩
        refine ⟨_, rfl, p, _, dx, _, rfl, s2 _ _ (s1 _ _ hp), T.clA, T.nAS, (by show 0 < 1000; decide), ?_⟩
        exact go 0 0 (-1) (by rw [Int.zero_fdiv]) (by rw [Int.zero_fdiv]) (by unfold lf3; rw [if_pos z0, if_neg hc1]) r H2 s2 hr1 hr2
    · have z0 : ¬ g2 a b = 0 := fun z => h0 (decide_eq_true (by
        show V.int ((g2 a b : Nat) : Int) = V.int 0
        rw [z]
        rfl))
      have hgc : ((g2 a b : Nat) : Int) ≠ 0 ∧ ((g2 a b : Nat) : Int).natAbs < 1073741824 := ⟨by omega, by omega⟩
      refine ⟨_, rfl, q, _, dq, _, _, rfl, hq, T.clS, T.nI, sf_i _ _ _, _, rfl, _, _, rfl, rfl, hgc, ?_⟩
      refine ⟨_, rfl, q, _, dq, _, _, rfl, hq, T.clS, T.nN, sf_n _ _ _, _, rfl, _, _, rfl, rfl, hgc, ?_⟩
      refine ⟨_, rfl, q, _, dq, _, _, rfl, hq, T.clS, T.nO, sf_one _ _ _, _, rfl, _, _, rfl, rfl, hgc, ?_⟩
      refine ⟨_, _, _, rfl, fun r H2 s2 hr1 hr2 => ?_⟩
      refine ⟨_, rfl, p, _, dx, _, rfl, s2 _ _ (s1 _ _ hp), T.clA, T.nAS, (by show 0 < 1000; decide), ?_⟩
      exact go _ _ _ rfl rfl (by unfold lf3; rw [if_neg z0]; rfl) r H2 s2 hr1 hr2
theorem pe_A {X : Cx} {e : Expr} {es : List Expr} {t : TA} {p pos : Pos} {k : Nat} (T : CoTx X.K X.mg) (M : MkA X.prog X.w X.K X.mg X.base) (hr : Room k X.A) (ha : PA X (e :: es) t) (hk : 5 ≤ k := by decide) (hg : Gl X "AtLeast" := by rfl)
    (he : starEach (e :: es) X.env = (false, eval e X.env) :: starEach es X.env := by rfl) (hpl : (backTo pos (starEach es X.env)).any (·.1) = false := by rfl) :
    PE X (.Call (.Name "AtLeast" p) (e :: es) [] pos) (fun σ H Q => t σ H fun vs H1 => ∃ v a b c, vs = [v] ∧ SumV X.K H1 v a b c ∧ g2 a b < 1073741824 ∧ NewA X.K H1 (a.fdiv (g2 a b)) (b.fdiv (g2 a b)) (lf3 a b c) Q) := by
  obtain ⟨fd, F, hb⟩ := M
  refine ⟨fun pins s σ H Q I h => ?_⟩
  refine wpAny_Call_Name_kw (ld_glob I hg T.gA ?_ (by decide))
  refine PySem.W.callWith_K (h₀ := X.base) I.ok.mod.kin T.mkA.kp (thn (ha.run pos pins s σ H _ I h) fun us s1 ⟨vs, H1, I1, r, v, a, b, c, ev, hv, hg2, q⟩ => ⟨I1.kIn, ?_⟩) he hpl
  subst ev
  refine run_make T.mkA F (hr.mono hk) hb .nil pass0 I1 r fun x dx nx nd ne => ?_
  have s0 : Same H1 (upd (upd H1 dx (.own x)) x (.ins (CA X.K) dx [])) := Same.new _ (Same.new _ (Same.refl H1) nd) (by rw [upd_ne (Ne.symm ne)]; exact nx)
  exact ⟨x, dx, v, a, b, c, rfl, upd_same, hv.same s0, hg2, fun q' H' hp hq kp => ⟨rfl, q x H' (Same.made (Same.refl H1) nx nd kp) ⟨dx, q', hp, hq⟩⟩⟩
def spAHolds (K : PySem.W.Frag) : Sp := fun vs H Q _ => ∃ (p : Addr) (a b c i n : Int), vs = [.ref p, .int i, .int n] ∧ AtlAt K H p a b c ∧ Bd 400 a ∧ Bd 400 b ∧ Bd 400 i ∧ Bd 400 n ∧ Q (.bl (decide (0 ≤ a * i + b * n + c))) H
def spARepl (K : PySem.W.Frag) : Sp := fun vs H Q _ => ∃ (p : Addr) (a b c f g : Int), vs = [.ref p, .int f, .int g] ∧ AtlAt K H p a b c ∧ Bd 400 a ∧ Bd 400 f ∧ Bd 400 g ∧ g2 (a * f) b < 1073741824 ∧ NewA K H ((a * f).fdiv (g2 (a * f) b)) (b.fdiv (g2 (a * f) b)) (lf3 (a * f) b (c + a * g)) Q
theorem scAtLeastholds : FnScope ["self", "i", "n"] ["self", "i", "n"] (defScope iAtLeastholds) := ⟨rfl, rfl, rfl, by decide +kernel, rfl, by decide +kernel, by decide +kernel⟩
theorem ok_AHolds {fd : FuncData} (F : FnM K "AtLeast" "holds" "AtLeast.holds" iAtLeastholds fd) (T : CoTx K mg) (dVal : Dn P w K mg base 1 "value_of" ["straight", "i", "n"] (spValW K)) : FnOk P w K mg base CX0 2 (He.ma K (CA K) "holds") fd ["self", "i", "n"] (spAHolds K) := by
  refine F.ok scAtLeastholds (fun vs H Q E h => ?_) (fun cdv A outer s H vs Q E hr h => ?_)
  · obtain ⟨p, a, b, c, i, n, rfl, _⟩ := h
    rfl
  · obtain ⟨p, a, b, c, i, n, rfl, ⟨dx, q, hp, hq⟩, ba, bb, bi, bn, k⟩ := h
    refine ⟨_, PSs.nox (pss_one (ps_ret (pe_cmpR op_ge (pe_dn dVal hr (pa_cons (pe_fld (pv 0) rfl) (pa_cons (pv 1) (pa_cons (pv 2) pa_nil)))) pe_int (nomark _)))), ?_⟩
    exact ⟨_, rfl, p, _, dx, _, _, rfl, hp, T.clA, T.nAS, af_s _, _, rfl, _, rfl, q, a, b, c, i, n, rfl, hq, ba, bb, bi, bn, _, _, rfl, rfl, k⟩
theorem scAtLeastreplaced : FnScope ["self", "factor", "shift"] ["self", "factor", "shift"] (defScope iAtLeastreplaced) := ⟨rfl, rfl, rfl, by decide +kernel, rfl, by decide +kernel, by decide +kernel⟩
theorem ok_ARepl {fd : FuncData} (F : FnM K "AtLeast" "replaced" "AtLeast.replaced" iAtLeastreplaced fd) (T : CoTx K mg) (MA : MkA P w K mg base) (dRepl : Dn P w K mg base 3 "replaced_straight" ["straight", "factor", "shift"] (spReplW K)) : FnOk P w K mg base CX0 6 (He.ma K (CA K) "replaced") fd ["self", "factor", "shift"] (spARepl K) := by
  refine F.ok scAtLeastreplaced (fun vs H Q E h => ?_) (fun cdv A outer s H vs Q E hr h => ?_)
  · obtain ⟨p, a, b, c, f, g, rfl, _⟩ := h
    rfl
  · obtain ⟨p, a, b, c, f, g, rfl, ⟨dx, q, hp, hq⟩, ba, bf, bg, hg, k⟩ := h
    refine ⟨_, PSs.nox (pss_one (ps_ret (pe_A T MA hr (pa_cons (pe_dn dRepl hr (pa_cons (pe_fld (pv 0) rfl) (pa_cons (pv 1) (pa_cons (pv 2) pa_nil)))) pa_nil)))), ?_⟩
    refine ⟨_, rfl, p, _, dx, _, _, rfl, hp, T.clA, T.nAS, af_s _, _, rfl, _, rfl, q, a, b, c, f, g, rfl, hq, ba, bf, bg, fun r H1 s1 _ hr1 => ?_⟩
    exact ⟨_, _, _, _, rfl, .inl ⟨r, rfl, hr1⟩, hg, fun u H2 s2 hu => k u H2 (s1.trans s2) hu⟩
/-- what may be called as Rest(v, m, r) -/
def MkR (P : Program) (w : World) (K : PySem.W.Frag) (mg : Str → Option Value) (base : Heap) : Prop := ∃ fd, FnOk P w K mg base (L2.CX P w) 4 (He.ma K (CR K) "__init__") fd ["self", "straight", "modulus", "rest"] (spRI K) ∧ Binds K fd ["self", "straight", "modulus", "rest"] []
theorem scRest__init__ : FnScope ["self", "straight", "modulus", "rest", "told"] ["self", "straight", "modulus", "rest"] (defScope iRest__init__) := ⟨rfl, rfl, rfl, by decide +kernel, rfl, by decide +kernel, by decide +kernel⟩
theorem mk_R {fd : FuncData} (T : CoTx K mg) (M : MkS P w K mg base) (MB : Mx P w K mg base "BadNumber" ["self", "what", "number"] ["what", "number"]) (dLike : Dn P w K mg base 3 "straight_like" ["value"] (spLike K)) (dIsIntFrom : Dn P w K mg base 2 "is_integer_from" ["value", "low", "high"] spIntFrom)
    (F : FnM K "Rest" "__init__" "Rest.__init__" iRest__init__ fd) : MkR P w K mg base := by
  refine ⟨fd, ?_, F.bindsN fun _ _ _ _ _ _ us hl => match us, hl with | [_, _, _, _], _ => rfl⟩
  refine F.ok scRest__init__ (fun vs H Q E h => ?_) (fun cdv A outer s H vs Q E hr h => ?_)
  · obtain ⟨p, dx, v, m, r, rfl, _⟩ := h
    rfl
  · obtain ⟨p, dx, v, m, r, rfl, hp, a, b, c, hv, b1, b2, k⟩ := h
    obtain ⟨tM, hM⟩ := T.topM
    refine ⟨_, (pss_cons (ps_if (pt_not (pt_val (pe_dn dIsIntFrom hr (pa_cons (pv 2) (pa_cons pe_int (pa_cons (pe_glob (v := .int 4) rfl hM ⟨tM, rfl⟩) pa_nil)))))) (pss_one (ps_raise rfl (takes_of rfl rfl rfl rfl) (pmk_err MB hr (pa_cons pe_str (pa_cons (pv 2) pa_nil))))) pss_nil)
      (pss_cons (ps_if (pt_not (pt_val (pe_dn dIsIntFrom hr (pa_cons (pv 3) (pa_cons pe_int (pa_cons (pe_op op_sub (pv 2) pe_int) pa_nil)))))) (pss_one (ps_raise rfl (takes_of rfl rfl rfl rfl) (pmk_err MB hr (pa_cons pe_str (pa_cons (pv 3) pa_nil))))) pss_nil)
      (pss_cons (ps_set (i := 4) scRest__init__.nd rfl (Or.inl rfl) (pe_dn dLike hr (pa_cons (pv 1) pa_nil)))
      (pss_cons (ps_fld (pv 0) (pe_S T.toStTx M hr (pa_cons (pe_op op_modN (pe_fld (pv 4) rfl) (pv 2)) (pa_cons (pe_op op_modN (pe_fld (pv 4) rfl) (pv 2)) (pa_cons pe_int pa_nil)))) rfl)
      (pss_cons (ps_fld (pv 0) (pv 2) rfl)
      (pss_one (ps_fld (pv 0) (pe_op op_modN (pe_op op_sub (pv 3) (pe_fld (pv 4) rfl)) (pv 2)) rfl))))))), ?_⟩
    refine ⟨_, rfl, m, 2, 4, rfl, ?_⟩
    by_cases hm : 2 ≤ m ∧ m ≤ 4
    · rw [decide_eq_true hm]
      refine ⟨_, rfl, iteF ?_⟩
      refine ⟨_, rfl, _, rfl, _, _, rfl, rfl, r, 0, m - 1, rfl, ?_⟩
      by_cases hq : 0 ≤ r ∧ r ≤ m - 1
      · rw [decide_eq_true hq]
        refine ⟨_, rfl, iteF ?_⟩
        have k := k hm.1 hm.2 hq.1 hq.2
        have m0 : m ≠ 0 := by omega
        refine ⟨_, rfl, v, a, b, c, rfl, hv, fun q H1 s1 hq => ?_⟩
        obtain ⟨dq, hq⟩ := hq
        refine ⟨_, rfl, q, _, dq, _, _, rfl, hq, T.clS, T.nI, sf_i _ _ _, _, rfl, _, _, rfl, rfl, m0, ?_⟩
        refine ⟨_, rfl, q, _, dq, _, _, rfl, hq, T.clS, T.nN, sf_n _ _ _, _, rfl, _, _, rfl, rfl, m0, ?_⟩
        refine ⟨_, _, _, rfl, fun u H2 s2 hu1 hu2 => ?_⟩
        have hp2 : H2 p = some (.ins (CR K) dx []) := s2 _ _ (s1 _ _ hp)
        have nqp : q ≠ p := fun z => by
          rw [z, s1 _ _ hp] at hq
          have e : ([] : List (Str × V)) = sf a b c := congrArg (fun o : Option HO => match o with | some (.ins _ _ fs) => fs | _ => []) hq
          have l := sf_i a b c
          rw [← e] at l
          cases l
        have nup : u ≠ p := fun z => by
          rw [z, s1 _ _ hp] at hu1
          cases hu1
        refine ⟨_, rfl, p, _, dx, _, rfl, hp2, T.clR, T.nRS, (by show 0 < 1000; decide), ?_⟩
        refine ⟨_, rfl, _, rfl, p, _, dx, _, rfl, upd_same, T.clR, T.nRM, len1 _ _, ?_⟩
        refine ⟨_, rfl, _, rfl, q, _, dq, _, _, rfl, by rw [upd_ne nqp, upd_ne nqp]; exact s2 _ _ hq, T.clS, T.nO, sf_one _ _ _, _, _, rfl, rfl, _, rfl, _, _, rfl, rfl, m0, ?_⟩
        refine ⟨_, rfl, p, _, dx, _, rfl, upd_same, T.clR, T.nRR, len2 _ _ _ _, ?_⟩
        obtain ⟨du, hu3⟩ := hu2
        refine k u _ upd_same ⟨du, by rw [upd_ne nup, upd_ne nup, upd_ne nup]; exact hu3⟩ (fun b o nb e => ?_)
        rw [upd_ne nb, upd_ne nb, upd_ne nb]
        exact s2 _ _ (s1 _ _ e)
      · rw [decide_eq_false hq]
        refine ⟨_, rfl, iteT ?_⟩
        exact ⟨_, rfl, err_go (K := K) (x := "BadNumber") (fs := ["what", "number"]) (by show 2 ≤ 1000; decide) rfl fun e H' s he => b2 hm.1 hm.2 hq e H' s he⟩
    · rw [decide_eq_false hm]
      refine ⟨_, rfl, iteT ?_⟩
      exact ⟨_, rfl, err_go (K := K) (x := "BadNumber") (fs := ["what", "number"]) (by show 2 ≤ 1000; decide) rfl fun e H' s he => b1 hm e H' s he⟩
theorem pe_R {X : Cx} {e : Expr} {es : List Expr} {t : TA} {p pos : Pos} {k : Nat} {E : L2.St → XK} (T : CoTx X.K X.mg) (M : MkR X.prog X.w X.K X.mg X.base) (hr : Room k X.A) (hx : ∀ σ, PassesAt (L2.CX X.prog X.w) X σ (E σ)) (ha : PA X (e :: es) t) (hk : 5 ≤ k := by decide) (hg : Gl X "Rest" := by rfl)
    (he : starEach (e :: es) X.env = (false, eval e X.env) :: starEach es X.env := by rfl) (hpl : (backTo pos (starEach es X.env)).any (·.1) = false := by rfl) :
    PE X (.Call (.Name "Rest" p) (e :: es) [] pos) (fun σ H Q => t σ H fun vs H1 => ∃ v m r, vs = [v, .int m, .int r] ∧ rRst X.K v m r H1 (fun a b c => NewR X.K H1 (a.fmod m) (b.fmod m) m ((r - c).fmod m) Q) (E σ)) := by
  obtain ⟨fd, F, hb⟩ := M
  refine ⟨fun pins s σ H Q I h => ?_⟩
  refine wpAny_Call_Name_kw (ld_glob I hg T.gR ?_ (by decide))
  refine PySem.W.callWith_K (h₀ := X.base) I.ok.mod.kin T.mkR.kp (thn (ha.run pos pins s σ H _ I h) fun us s1 ⟨vs, H1, I1, rr, v, m, r, ev, a, b, c, hv, b1, b2, q⟩ => ⟨I1.kIn, ?_⟩) he hpl
  subst ev
  refine make_at T.mkR F (hr.mono hk) hb (hx σ) I1 rr fun x dx nx nd ne => ?_
  have s0 : Same H1 (upd (upd H1 dx (.own x)) x (.ins (CR X.K) dx [])) := Same.new _ (Same.new _ (Same.refl H1) nd) (by rw [upd_ne (Ne.symm ne)]; exact nx)
  exact ⟨x, dx, v, m, r, rfl, upd_same, a, b, c, hv.same s0, fun z e H' s he => b1 z e H' (s0.trans s) he, fun z1 z2 z e H' s he => b2 z1 z2 z e H' (s0.trans s) he, fun z1 z2 z3 z4 q' H' hp hq kp => ⟨rfl, q z1 z2 z3 z4 x H' (Same.made (Same.refl H1) nx nd kp) ⟨dx, q', hp, hq⟩⟩⟩
theorem pe_RT {X : Cx} {K : PySem.W.Frag} {e : Expr} {es : List Expr} {t : TA} {p pos : Pos} {k : Nat} {W : WX} (tk : Takes X W) (hK : X.K = K) (T : CoTx K X.mg) (M : MkR X.prog X.w K X.mg X.base) (hr : Room k X.A) (ha : PA X (e :: es) t) (hk : 5 ≤ k := by decide) (hg : Gl X "Rest" := by rfl)
    (he : starEach (e :: es) X.env = (false, eval e X.env) :: starEach es X.env := by rfl) (hpl : (backTo pos (starEach es X.env)).any (·.1) = false := by rfl) :
    PE X (.Call (.Name "Rest" p) (e :: es) [] pos) (fun σ H Q => t σ H fun vs H1 => ∃ v m r, vs = [v, .int m, .int r] ∧ rRst K v m r H1 (fun a b c => NewR K H1 (a.fmod m) (b.fmod m) m ((r - c).fmod m) Q) (WE W σ)) := by
  subst hK
  exact pe_R T M hr (fun σ => passAt tk σ) ha hk hg he hpl
theorem pe_SK {X : Cx} {K : PySem.W.Frag} {e : Expr} {es : List Expr} {t : TA} {p pos : Pos} {k : Nat} (hK : X.K = K) (T : StTx K X.mg) (M : MkS X.prog X.w K X.mg X.base) (hr : Room k X.A) (ha : PA X (e :: es) t) (hk : 2 ≤ k := by decide) (hg : Gl X "Straight" := by rfl)
    (he : starEach (e :: es) X.env = (false, eval e X.env) :: starEach es X.env := by rfl) (hpl : (backTo pos (starEach es X.env)).any (·.1) = false := by rfl) :
    PE X (.Call (.Name "Straight" p) (e :: es) [] pos) (fun σ H Q => t σ H fun vs H1 => ∃ a b c, vs = [.int a, .int b, .int c] ∧ NewS K H1 a b c Q) := by
  subst hK
  exact pe_S T M hr ha hk hg he hpl
def spRHolds (K : PySem.W.Frag) : Sp := fun vs H Q _ => ∃ (p : Addr) (a b m r i n : Int), vs = [.ref p, .int i, .int n] ∧ RstAt K H p a b m r ∧ Bd 400 a ∧ Bd 400 b ∧ Bd 400 i ∧ Bd 400 n ∧ m ≠ 0 ∧ Q (.bl (decide ((a * i + b * n + 0).fmod m = r))) H
def spRRepl (K : PySem.W.Frag) : Sp := fun vs H Q _ => ∃ (p : Addr) (a b m r f g : Int), vs = [.ref p, .int f, .int g] ∧ RstAt K H p a b m r ∧ Bd 400 a ∧ Bd 400 f ∧ Bd 400 g ∧ 2 ≤ m ∧ m ≤ 4 ∧ 0 ≤ r ∧ r ≤ m - 1 ∧ NewR K H ((a * f).fmod m) (b.fmod m) m ((r - (0 + a * g)).fmod m) Q
theorem scRestholds : FnScope ["self", "i", "n"] ["self", "i", "n"] (defScope iRestholds) := ⟨rfl, rfl, rfl, by decide +kernel, rfl, by decide +kernel, by decide +kernel⟩
theorem ok_RHolds {fd : FuncData} (F : FnM K "Rest" "holds" "Rest.holds" iRestholds fd) (T : CoTx K mg) (dVal : Dn P w K mg base 1 "value_of" ["straight", "i", "n"] (spValW K)) : FnOk P w K mg base CX0 2 (He.ma K (CR K) "holds") fd ["self", "i", "n"] (spRHolds K) := by
  refine F.ok scRestholds (fun vs H Q E h => ?_) (fun cdv A outer s H vs Q E hr h => ?_)
  · obtain ⟨p, a, b, m, r, i, n, rfl, _⟩ := h
    rfl
  · obtain ⟨p, a, b, m, r, i, n, rfl, ⟨dx, q, hp, hq⟩, ba, bb, bi, bn, m0, k⟩ := h
    refine ⟨_, PSs.nox (pss_one (ps_ret (pe_cmpR op_eq (pe_op op_modN (pe_dn dVal hr (pa_cons (pe_fld (pv 0) rfl) (pa_cons (pv 1) (pa_cons (pv 2) pa_nil)))) (pe_fld (pv 0) rfl)) (pe_fld (pv 0) rfl) (nomark _)))), ?_⟩
    refine ⟨_, rfl, p, _, dx, _, _, rfl, hp, T.clR, T.nRS, rf_s _ _ _, _, rfl, _, rfl, q, a, b, 0, i, n, rfl, hq, ba, bb, bi, bn, ?_⟩
    refine ⟨_, rfl, p, _, dx, _, _, rfl, hp, T.clR, T.nRM, rf_m _ _ _, _, _, rfl, rfl, m0, _, rfl, p, _, dx, _, _, rfl, hp, T.clR, T.nRR, rf_r _ _ _, rfl, ?_⟩
    have e : decide (V.int ((a * i + b * n + 0).fmod m) = V.int r) = decide ((a * i + b * n + 0).fmod m = r) := decide_eq_decide.mpr ⟨V.int.inj, congrArg V.int⟩
    rw [← e] at k
    exact k
theorem scRestreplaced : FnScope ["self", "factor", "shift"] ["self", "factor", "shift"] (defScope iRestreplaced) := ⟨rfl, rfl, rfl, by decide +kernel, rfl, by decide +kernel, by decide +kernel⟩
theorem ok_RRepl {fd : FuncData} (F : FnM K "Rest" "replaced" "Rest.replaced" iRestreplaced fd) (T : CoTx K mg) (MR : MkR P w K mg base) (dRepl : Dn P w K mg base 3 "replaced_straight" ["straight", "factor", "shift"] (spReplW K)) : FnOk P w K mg base CX0 6 (He.ma K (CR K) "replaced") fd ["self", "factor", "shift"] (spRRepl K) := by
  refine F.ok scRestreplaced (fun vs H Q E h => ?_) (fun cdv A outer s H vs Q E hr h => ?_)
  · obtain ⟨p, a, b, m, r, f, g, rfl, _⟩ := h
    rfl
  · obtain ⟨p, a, b, m, r, f, g, rfl, ⟨dx, q, hp, hq⟩, ba, bf, bg, m2, m4, r0, r1, k⟩ := h
    refine ⟨_, PSs.nox (pss_one (ps_ret (pe_R T MR hr at_E0 (pa_cons (pe_dn dRepl hr (pa_cons (pe_fld (pv 0) rfl) (pa_cons (pv 1) (pa_cons (pv 2) pa_nil)))) (pa_cons (pe_fld (pv 0) rfl) (pa_cons (pe_fld (pv 0) rfl) pa_nil)))))), ?_⟩
    refine ⟨_, rfl, p, _, dx, _, _, rfl, hp, T.clR, T.nRS, rf_s _ _ _, _, rfl, _, rfl, q, a, b, 0, f, g, rfl, hq, ba, bf, bg, fun u H1 s1 _ hu => ?_⟩
    refine ⟨_, rfl, p, _, dx, _, _, rfl, s1 _ _ hp, T.clR, T.nRM, rf_m _ _ _, _, rfl, p, _, dx, _, _, rfl, s1 _ _ hp, T.clR, T.nRR, rf_r _ _ _, ?_⟩
    exact ⟨_, m, r, rfl, _, _, _, .inl ⟨u, rfl, hu⟩, fun z => absurd ⟨m2, m4⟩ z, fun _ _ z => absurd ⟨r0, r1⟩ z, fun _ _ _ _ y H2 s2 hy => k y H2 (s1.trans s2) hy⟩
end
end K21

set_option maxHeartbeats 4000000
namespace K21
open PySem PySem.Spec PyProof.Rows L2 Z
/-- the law's own built-in names, beside those of the classes -/
structure LwTx (K : PySem.W.Frag) (mg : Str → Option Value) : Prop extends CoTx K mg where
  len : mg "len" = none
  list : mg "list" = none
  range : mg "range" = none
  str : mg "str" = none
  abs : mg "abs" = none
  max : mg "max" = none
  min : mg "min" = none
  zip : mg "zip" = none
def big30 : Int := (10 : Int) ^ (30 : Int).toNat
theorem big30_pos : 0 < big30 := by decide
theorem big30_ne : big30 ≠ 0 := by decide
def spBig : Sp := fun vs H Q _ => ∃ (p : Addr) (t : Nat), vs = [.ref p, .int big30] ∧ t < 900000000 ∧ Pen H p t ∧ ∀ H' (d : Int), 0 ≤ d → d < big30 → Pen H' p (t + 7) → Keep p H H' → Q (.int d) H'
def spBetween : Sp := fun vs H Q _ => ∃ (p : Addr) (lo hi : Int) (t : Nat), vs = [.ref p, .int lo, .int hi] ∧ lo ≤ hi ∧ hi - lo + 1 < 1073741824 ∧ t < 900000000 ∧ Pen H p t ∧ ∀ H' (d : Int), lo ≤ d → d ≤ hi → Pen H' p (t + 2) → Keep p H H' → Q (.int d) H'
def spFar : Sp := fun vs H Q _ => ∃ (p : Addr) (t : Nat), vs = [.ref p] ∧ t < 800000000 ∧ Pen H p t ∧ ∀ H' (d : Int), 0 ≤ d → d < big30 → Pen H' p (t + 8) → Keep p H H' → Q (.int d) H'
def spDivisor : Sp := fun vs H Q _ => ∃ a b : Int, vs = [.int a, .int b] ∧ Q (.int (Nat.gcd a.natAbs b.natAbs : Nat)) H
theorem sz4 : 4 ≤ sizeLine := by show 4 ≤ sizeLine; decide
theorem sz2 : 2 ≤ sizeLine := by show 2 ≤ sizeLine; decide
theorem abs_of (a : Int) : (if a < 0 then -a else a) = (a.natAbs : Int) := by
  by_cases h : a < 0
  · rw [if_pos h]; omega
  · rw [if_neg h]; omega

theorem bd_far {d : Int} (h0 : 0 ≤ d) (h1 : d < big30) : Bd 100 d := Bd.of 1000000000000000000000000000000 (by decide +kernel) (by omega) (Int.le_of_lt (Int.lt_of_lt_of_le h1 (by decide +kernel)))
theorem bd_small {n : Nat} {d : Int} (N : Nat) (h1 : -(N : Int) ≤ d) (h2 : d ≤ (N : Int)) (hN : N < 2 ^ n := by decide +kernel) : Bd n d := Bd.of N hN h1 h2
def tup3 (a b c : Int) : HO := .tup [.int a, .int b, .int c]
def LeastG (H : Hp) (g : Addr) (a b c : Int) : Prop := ∃ t, H g = some (.tup [.str "least", .ref t]) ∧ H t = some (tup3 a b c)
def RestG (H : Hp) (g : Addr) (a b c m r : Int) : Prop := ∃ t, H g = some (.tup [.str "rest", .ref t, .int m, .int r]) ∧ H t = some (tup3 a b c)
def GrdAt (H : Hp) (g : Addr) (h : Int → Int → Bool) : Prop := (∃ a b c, LeastG H g a b c ∧ Bd 300 a ∧ Bd 300 b ∧ ∀ i n, h i n = decide (0 ≤ a * i + b * n + c)) ∨
  ∃ a b c m r, RestG H g a b c m r ∧ Bd 300 a ∧ Bd 300 b ∧ m ≠ 0 ∧ ∀ i n, h i n = decide ((a * i + b * n + c).fmod m = r)
def spValue : Sp := fun vs H Q _ => ∃ (t : Addr) (a b c i n : Int), vs = [.ref t, .int i, .int n] ∧ H t = some (tup3 a b c) ∧ Bd 400 a ∧ Bd 400 b ∧ Bd 400 i ∧ Bd 400 n ∧ Q (.int (a * i + b * n + c)) H
def spGuardH : Sp := fun vs H Q _ => ∃ (g : Addr) (h : Int → Int → Bool) (i n : Int), vs = [.ref g, .int i, .int n] ∧ GrdAt H g h ∧ Bd 400 i ∧ Bd 400 n ∧ Q (.bl (h i n)) H
def spDueG : Sp := fun vs H Q _ => ∃ g, vs = [.ref g] ∧ ((∃ a b c, LeastG H g a b c ∧ g2 a b < 1073741824 ∧ ∀ t, H t = none → Q (.ref t) (upd H t (tup3 (a.fdiv (g2 a b)) (b.fdiv (g2 a b)) (lf3 a b c)))) ∨
  ∃ a b c m r, RestG H g a b c m r ∧ m ≠ 0 ∧ ∀ t, H t = none → Q (.ref t) (upd H t (.tup [.int (a.fmod m), .int (b.fmod m), .int 0, .int m, .int ((r - c).fmod m)])))
def spThree : Sp := fun vs H Q _ => ∃ (p : Addr) (t : Nat), vs = [.ref p] ∧ t < 700000000 ∧ Pen H p t ∧ ∀ H' tt (a b c : Int), H' tt = some (tup3 a b c) → Bd 101 a → Bd 101 b → Bd 101 c → Pen H' p (t + 30) → Keep p H H' → Q (.ref tt) H'
def spIsSum (K : PySem.W.Frag) : Sp := fun vs H Q _ => ∃ (r u : Addr) (a b c i n : Int), vs = [.ref r, .ref u, .int i, .int n] ∧ StrAt K H r a b c ∧ H u = some (tup3 a b c) ∧ Bd 400 a ∧ Bd 400 b ∧ Bd 400 i ∧ Bd 400 n ∧ ∀ H', Same H H' → Q (.bl true) H'
def spRefusedR : Sp := fun vs H Q _ => ∃ m r : Int, vs = [.int m, .int r] ∧ (¬ (2 ≤ m ∧ m ≤ 4) → ∀ t H', Same H H' → H' t = some (.tup [.str "modulus", .int m]) → Q (.ref t) H') ∧
  (2 ≤ m → m ≤ 4 → ¬ (0 ≤ r ∧ r ≤ m - 1) → ∀ t H', Same H H' → H' t = some (.tup [.str "rest", .int r]) → Q (.ref t) H') ∧ (2 ≤ m → m ≤ 4 → 0 ≤ r → r ≤ m - 1 → ∀ H', Same H H' → Q .non H')
theorem at0 {x : V} {l : List V} : atI (x :: l) 0 = some x := atI_nat (xs := x :: l) (j := 0) rfl
theorem at1 {x y : V} {l : List V} : atI (x :: y :: l) 1 = some y := atI_nat (xs := x :: y :: l) (j := 1) rfl
theorem at2 {x y z : V} {l : List V} : atI (x :: y :: z :: l) 2 = some z := atI_nat (xs := x :: y :: z :: l) (j := 2) rfl
theorem at3 {x y z u : V} {l : List V} : atI (x :: y :: z :: u :: l) 3 = some u := atI_nat (xs := x :: y :: z :: u :: l) (j := 3) rfl
theorem sz3 : 3 ≤ sizeLine := by show 3 ≤ sizeLine; decide
theorem sz5 : 5 ≤ sizeLine := by show 5 ≤ sizeLine; decide
theorem sqt3 {K : PySem.W.Frag} {H : Hp} {t : Addr} {a b c : Int} (h : H t = some (tup3 a b c)) : SqT K H t [.int a, .int b, .int c] := SqT.of h
theorem lr_ : decide (V.str ("least" : Str) = V.str ("rest" : Str)) = false := by decide +kernel
theorem rr_ : decide (V.str ("rest" : Str) = V.str ("rest" : Str)) = true := by decide +kernel
theorem dp3 {K : PySem.W.Frag} {H : Hp} {t : Addr} {a b c : Int} (h : H t = some (tup3 a b c)) : Dp K H (.ref t) (.tuple [.int a, .int b, .int c]) := .tup (SqT.of h) (.cons (.int _) (.cons (.int _) (.cons (.int _) .nil)))
theorem tup3_shaped (a b c : Int) : SeqAt.shaped (.tuple [.int a, .int b, .int c]) = true := by simp [SeqAt.shaped, PyData.canLay0, PyData.canLayAll0, PyData.depth, PyData.depthAll]
theorem eq_self {d : PyData} (h : SeqAt.shaped d = true) : (!PyData.eqv d d) = false := by
  rw [SeqAt.eqv_refl d (SeqAt.canLay_of_shaped h)]
  rfl
theorem if_no {b : Bool} {A B : Prop} (h : b = false) (k : B) : if b = true then A else B := by
  rw [h]
  exact k
theorem if_yes {b : Bool} {A B : Prop} (h : b = true) (k : A) : if b = true then A else B := by
  rw [h]
  exact k
theorem not_dec {p : Prop} [Decidable p] (h : p) : (!decide p) = false := by
  rw [decide_eq_true h]
  rfl
theorem look_n {n : Int} {w0 : Str} : (bnF w0 (.int n)).lookup ("number" : Str) = some (.int n) := by
  unfold bnF
  exact look_hd
theorem wn_ : ¬ (("what" : Str) = "number") := by decide +kernel
theorem look_w {v : V} {w : Str} : (bnF w v).lookup ("what" : Str) = some (.str w) := by
  unfold bnF
  rw [look_tl wn_]
  exact look_hd
section
variable {P : Program} {w : World} {K : PySem.W.Frag} {mg : Str → Option Value} {base : Heap}
theorem LwTx.bt (T : LwTx K mg) : Bt mg := ⟨T.int, T.len, T.list⟩
theorem sc_law_big : FnScope ["_law_pen_here", "_law_many", "_law_found", "_law_k"] ["_law_pen_here", "_law_many"] (defScope s_law_big) := ⟨rfl, rfl, rfl, by decide +kernel, rfl, by decide +kernel, by decide +kernel⟩
theorem ok_big {f : Addr} {fd : FuncData} (F : FnP K "_law_big" s_law_big f fd) (T : LwTx K mg) (dDraw : Dn P w K mg base 1 "_law_draw" ["_law_pen_here", "_law_many"] spDraw) : FnOk P w K mg base CX0 2 f fd ["_law_pen_here", "_law_many"] spBig := by
  refine F.ok sc_law_big (fun vs H Q E h => ?_) (fun cdv A outer s H vs Q E hr h => ?_)
  · obtain ⟨p, t, rfl, _⟩ := h
    rfl
  · obtain ⟨p, t, rfl, ht, hP, k⟩ := h
    refine ⟨_, PSs.nox (pss_cons (ps_set (i := 2) sc_law_big.nd rfl (Or.inl rfl) pe_int)
      (pss_cons (ps_for PassesOwn.never rfl (pi_range1 (by rfl) T.range (pa_cons (pe_op op_add (pe_op op_fdivN (pe_callB call_len_str (by rfl) T.len PySem.boot_len (pa_cons (pe_callTy call_str_int (by rfl) T.str (by decide +kernel) (pa_cons (pv 1) pa_nil)) pa_nil)) pe_int) pe_int) pa_nil)) (pg_name (i := 3) sc_law_big.nd rfl (.inl rfl)) (pss_one (ps_set (i := 2) sc_law_big.nd rfl (Or.inl rfl) (pe_op op_add (pe_op op_mul (pv 2) (pe_op op_pow pe_int pe_int)) (pe_dn dDraw hr (pa_cons (pv 0) (pa_cons (pe_op op_pow pe_int pe_int) pa_nil)))))))
      (pss_one (ps_ret (pe_op op_modN (pe_callTy call_int1 (by rfl) T.int (by decide +kernel) (pa_cons (pv 2) pa_nil)) (pv 1)))))), ?_⟩
    refine ⟨_, rfl, ?_⟩
    refine ⟨_, rfl, (by decide +kernel), _, rfl, (by decide +kernel), _, _, rfl, rfl, ⟨by decide, by decide⟩, _, _, rfl, rfl, 7, (by decide +kernel), by decide, by decide, ?_⟩
    refine for_range (lo := 0) (n := 7) (fun i σ H' => ∃ (x : Int) (v : Option V), σ = [some (.ref p), some (.int big30), some (.int x), v] ∧ 0 ≤ x ∧ Pen H' p (t + i) ∧ Keep p H H') ⟨0, _, rfl, by decide, hP, Keep.refl _ _⟩ ?_ ?_
    · rintro i σ H2 hi ⟨x, v, rfl, hx, hP2, kp⟩
      refine ⟨_, rfl, _, _, rfl, rfl, ⟨by decide, by decide, by decide⟩, _, _, rfl, rfl, .inr ⟨by decide, by decide⟩, ?_⟩
      refine ⟨_, rfl, _, _, rfl, rfl, ⟨by decide, by decide, by decide⟩, p, _, t + i, rfl, by decide, by decide, by omega, hP2, fun H3 d d0 d1 hP3 kp3 => ?_⟩
      have hx2 : 0 ≤ x * 10 ^ (6 : Int).toNat := Int.mul_nonneg hx (by decide)
      exact ⟨_, _, rfl, rfl, _, _, rfl, by omega, hP3, kp.trans kp3⟩
    · rintro σ H2 ⟨x, v, rfl, hx, hP2, kp⟩
      refine ⟨_, rfl, .inl ⟨_, rfl, _, rfl, _, _, rfl, rfl, big30_ne, ?_⟩⟩
      exact k _ _ (fmod_range big30_pos).1 (fmod_range big30_pos).2 hP2 kp
theorem sc_law_between : FnScope ["_law_pen_here", "_law_least", "_law_most", "_law_way", "_law_found"] ["_law_pen_here", "_law_least", "_law_most"] (defScope s_law_between) := ⟨rfl, rfl, rfl, by decide +kernel, rfl, by decide +kernel, by decide +kernel⟩
theorem ok_between {f : Addr} {fd : FuncData} (F : FnP K "_law_between" s_law_between f fd) (T : LwTx K mg) (dDraw : Dn P w K mg base 1 "_law_draw" ["_law_pen_here", "_law_many"] spDraw) : FnOk P w K mg base CX0 2 f fd ["_law_pen_here", "_law_least", "_law_most"] spBetween := by
  refine F.ok sc_law_between (fun vs H Q E h => ?_) (fun cdv A outer s H vs Q E hr h => ?_)
  · obtain ⟨p, lo, hi, t, rfl, _⟩ := h
    rfl
  · obtain ⟨p, lo, hi, t, rfl, hle, hsm, ht, hP, k⟩ := h
    refine ⟨_, PSs.nox (pss_cons (ps_set (i := 3) sc_law_between.nd rfl (Or.inl rfl) (pe_dn dDraw hr (pa_cons (pv 0) (pa_cons pe_int pa_nil))))
      (pss_cons (ps_if (pt_cmpR op_lt (pv 3) pe_int (nomark _)) (pss_one (ps_set (i := 4) sc_law_between.nd rfl (Or.inl rfl) (pe_op op_sub (pe_dn dDraw hr (pa_cons (pv 0) (pa_cons pe_int pa_nil))) pe_int))) (pss_one (ps_if (pt_cmpR op_eq (pv 3) pe_int (nomark _)) (pss_one (ps_set (i := 4) sc_law_between.nd rfl (Or.inl rfl) (pe_ix ix_list (pe_lst (pa_cons (pv 1) (pa_cons (pv 2) (pa_cons (pe_op op_add (pv 1) pe_int) (pa_cons (pe_op op_sub (pv 2) pe_int) pa_nil))))) (pe_dn dDraw hr (pa_cons (pv 0) (pa_cons pe_int pa_nil))) (fun _ _ => rfl)))) (pss_one (ps_set (i := 4) sc_law_between.nd rfl (Or.inl rfl) (pe_op op_add (pv 1) (pe_dn dDraw hr (pa_cons (pv 0) (pa_cons (pe_op op_add (pe_op op_sub (pv 2) (pv 1)) pe_int) pa_nil)))))))))
      (pss_one (ps_ret (pe_callB (call_max2 rfl) (by rfl) T.max (by decide +kernel) (pa_cons (pv 1) (pa_cons (pe_callB (call_min2 rfl) (by rfl) T.min (by decide +kernel) (pa_cons (pv 2) (pa_cons (pv 4) pa_nil))) pa_nil))))))), ?_⟩
    refine ⟨_, rfl, p, 4, t, rfl, by decide, by decide, by omega, hP, fun H1 d d0 d1 hP1 kp1 => ?_⟩
    refine ⟨_, rfl, _, _, rfl, rfl, _, rfl, ite2 (fun _ => ?_) (fun _ => ?_)⟩
    · refine ⟨_, rfl, p, 7, t + 1, rfl, by decide, by decide, by omega, hP1, fun H2 e e0 e1 hP2 kp2 => ⟨_, _, rfl, rfl, ?_⟩⟩
      refine ⟨_, rfl, _, rfl, _, rfl, _, _, rfl, _, _, rfl, ?_⟩
      refine k _ _ ?_ ?_ hP2 (kp1.trans kp2)
      · split <;> split <;> omega
      · split <;> split <;> omega
    · refine ⟨_, rfl, rfl, _, rfl, ite2 (fun _ => ?_) (fun _ => ?_)⟩
      · refine ⟨_, rfl, _, rfl, _, rfl, _, _, rfl, rfl, _, rfl, _, _, rfl, rfl, sz4, fun l hl => ?_⟩
        have hP1' : Pen (upd H1 l (.lst [.int lo, .int hi, .int (lo + 1), .int (hi - 1)])) p (t + 1) := hP1.same (Same.new _ (Same.refl _) hl)
        refine ⟨_, rfl, p, 4, t + 1, rfl, by decide, by decide, by omega, hP1', fun H2 e e0 e1 hP2 kp2 => ?_⟩
        have kA : Keep p H H2 := kp1.trans ((Keep.new _ (Keep.refl p H1) hl).trans kp2)
        have hl2 : H2 l = some (.lst [.int lo, .int hi, .int (lo + 1), .int (hi - 1)]) := kp2 _ _ (fun z => by rw [z] at hl; obtain ⟨_, _, _, _, q, _⟩ := hP1; rw [hl] at q; cases q) upd_same
        obtain ⟨j, rfl⟩ : ∃ j : Nat, e = (j : Int) := ⟨e.toNat, by omega⟩
        have hj : ∃ v : Int, ([.int lo, .int hi, .int (lo + 1), .int (hi - 1)] : List V)[j]? = some (.int v) := by
          have hj4 : j < 4 := by omega
          match j, hj4 with
          | 0, _ => exact ⟨_, rfl⟩
          | 1, _ => exact ⟨_, rfl⟩
          | 2, _ => exact ⟨_, rfl⟩
          | 3, _ => exact ⟨_, rfl⟩
        obtain ⟨v, hv⟩ := hj
        refine ⟨l, _, _, _, rfl, rfl, SqL.of hl2, atI_nat hv, ?_⟩
        refine ⟨_, rfl, _, rfl, _, rfl, _, _, rfl, _, _, rfl, ?_⟩
        refine k _ _ ?_ ?_ hP2 kA
        · split <;> split <;> omega
        · split <;> split <;> omega
      · refine ⟨_, rfl, _, rfl, _, rfl, _, rfl, _, _, rfl, rfl, _, _, rfl, rfl, p, _, t + 1, rfl, by omega, by omega, by omega, hP1, fun H2 e e0 e1 hP2 kp2 => ⟨_, _, rfl, rfl, ?_⟩⟩
        refine ⟨_, rfl, _, rfl, _, rfl, _, _, rfl, _, _, rfl, ?_⟩
        refine k _ _ ?_ ?_ hP2 (kp1.trans kp2)
        · split <;> split <;> omega
        · split <;> split <;> omega
theorem sc_law_far : FnScope ["_law_pen_here", "_law_way"] ["_law_pen_here"] (defScope s_law_far) := ⟨rfl, rfl, rfl, by decide +kernel, rfl, by decide +kernel, by decide +kernel⟩
theorem ok_far {f : Addr} {fd : FuncData} (F : FnP K "_law_far" s_law_far f fd) (T : LwTx K mg) (dDraw : Dn P w K mg base 1 "_law_draw" ["_law_pen_here", "_law_many"] spDraw) (dBig : Dn P w K mg base 2 "_law_big" ["_law_pen_here", "_law_many"] spBig) : FnOk P w K mg base CX0 3 f fd ["_law_pen_here"] spFar := by
  refine F.ok sc_law_far (fun vs H Q E h => ?_) (fun cdv A outer s H vs Q E hr h => ?_)
  · obtain ⟨p, t, rfl, _⟩ := h
    rfl
  · obtain ⟨p, t, rfl, ht, hP, k⟩ := h
    refine ⟨_, PSs.nox (pss_cons (ps_set (i := 1) sc_law_far.nd rfl (Or.inl rfl) (pe_dn dDraw hr (pa_cons (pv 0) (pa_cons pe_int pa_nil))))
      (pss_cons (ps_if (pt_cmpR op_eq (pv 1) pe_int (nomark _)) (pss_one (ps_ret (pe_dn dDraw hr (pa_cons (pv 0) (pa_cons pe_int pa_nil))))) pss_nil)
      (pss_cons (ps_if (pt_cmpR op_eq (pv 1) pe_int (nomark _)) (pss_one (ps_ret (pe_dn dDraw hr (pa_cons (pv 0) (pa_cons pe_int pa_nil))))) pss_nil)
      (pss_one (ps_ret (pe_dn dBig hr (pa_cons (pv 0) (pa_cons (pe_op op_pow pe_int pe_int) pa_nil)))))))), ?_⟩
    have b6 : (600 : Int) < big30 := by decide
    refine ⟨_, rfl, p, 3, t, rfl, by decide, by decide, by omega, hP, fun H1 d d0 d1 hP1 kp1 => ?_⟩
    refine ⟨_, rfl, rfl, _, rfl, ite2 (fun _ => ?_) (fun _ => ?_)⟩
    · exact ⟨_, rfl, p, 6, t + 1, rfl, by decide, by decide, by omega, hP1, fun H2 e e0 e1 hP2 kp2 => k _ _ e0 (by omega) (hP2.mono (by omega)) (kp1.trans kp2)⟩
    · refine ⟨_, rfl, rfl, _, rfl, ite2 (fun _ => ?_) (fun _ => ?_)⟩
      · exact ⟨_, rfl, p, 600, t + 1, rfl, by decide, by decide, by omega, hP1, fun H2 e e0 e1 hP2 kp2 => k _ _ e0 (by omega) (hP2.mono (by omega)) (kp1.trans kp2)⟩
      · exact ⟨_, rfl, _, _, rfl, rfl, ⟨by decide, by decide, by decide⟩, p, t + 1, rfl, by omega, hP1, fun H2 e e0 e1 hP2 kp2 => k _ _ e0 e1 (hP2.mono (by omega)) (kp1.trans kp2)⟩
theorem sc_law_divisor : FnScope ["_law_a", "_law_b"] ["_law_a", "_law_b"] (defScope s_law_divisor) := ⟨rfl, rfl, rfl, by decide +kernel, rfl, by decide +kernel, by decide +kernel⟩
theorem ok_divisor {f : Addr} {fd : FuncData} (F : FnP K "_law_divisor" s_law_divisor f fd) (T : LwTx K mg) : FnOk P w K mg base CX0 1 f fd ["_law_a", "_law_b"] spDivisor := by
  refine F.ok sc_law_divisor (fun vs H Q E h => ?_) (fun cdv A outer s H vs Q E hr h => ?_)
  · obtain ⟨a, b, rfl, _⟩ := h
    rfl
  · obtain ⟨a, b, rfl, k⟩ := h
    refine ⟨_, PSs.nox (pss_cons (ps_par (i := 0) (j := 1) (by rfl) sc_law_divisor.nd rfl rfl (by decide) rfl rfl (pa_cons (pe_callB call_abs (by rfl) T.abs (by decide +kernel) (pa_cons (pv 0) pa_nil)) (pa_cons (pe_callB call_abs (by rfl) T.abs (by decide +kernel) (pa_cons (pv 1) pa_nil)) pa_nil)) (by rfl))
      (pss_cons (ps_while PassesOwn.never (pt_cmpR op_gt (pv 1) pe_int (nomark _)) (pss_one (ps_par (i := 0) (j := 1) (by rfl) sc_law_divisor.nd rfl rfl (by decide) rfl rfl (pa_cons (pv 1) (pa_cons (pe_op op_modN (pe_callTy call_int1 (by rfl) T.int (by decide +kernel) (pa_cons (pv 0) pa_nil)) (pv 1)) pa_nil)) (by rfl))))
      (pss_one (ps_ret (pv 0))))), ?_⟩
    refine ⟨_, rfl, _, rfl, _, rfl, _, rfl, _, _, rfl, ?_⟩
    rw [abs_of, abs_of]
    refine while_by (fun σ H' => ∃ x y : Nat, σ = [some (.int x), some (.int y)] ∧ H' = H ∧ Nat.gcd x y = Nat.gcd a.natAbs b.natAbs) (fun σ _ => match σ with | [_, some (.int y)] => y.toNat | _ => 0) ⟨_, _, rfl, rfl, rfl⟩ ?_ ?_
    · rintro σ H2 ⟨x, y, rfl, rfl, e⟩
      refine ⟨_, rfl, _, _, rfl, rfl, _, rfl, ite2 (fun h => ?_) (fun h => ?_)⟩
      · have hy : 0 < (y : Int) := of_decide_eq_true h
        have hyn : 0 < y := by omega
        refine ⟨_, rfl, _, rfl, .inl ⟨_, rfl, _, rfl, _, _, rfl, rfl, by omega, _, _, rfl, ?_⟩⟩
        have em : (x : Int).fmod (y : Int) = ((x % y : Nat) : Int) := by
          rw [Int.fmod_eq_emod_of_nonneg _ (by omega)]
          rfl
        refine ⟨⟨y, x % y, congrArg (fun z => [some (V.int (y : Int)), some (V.int z)]) em, rfl, ?_⟩, ?_⟩
        · rw [← e, Nat.gcd_comm x y, Nat.gcd_rec y x, Nat.gcd_comm]
        · show ((x : Int).fmod (y : Int)).toNat < ((y : Int)).toNat
          rw [em]
          have := Nat.mod_lt x hyn
          omega
      · have hy : ¬ 0 < (y : Int) := fun z => h (decide_eq_true z)
        have hyn : y = 0 := by omega
        subst hyn
        rw [Nat.gcd_zero_right] at e
        subst e
        exact ⟨_, rfl, k⟩
    · rintro σ H2 Q1 Q2 hq ⟨x, hx, y, z, e0, e1, u, e2, e3⟩
      exact ⟨x, hx, y, z, e0, e1, u, e2, hq _ _ e3⟩

theorem sc_law_value : FnScope ["_law_row", "_law_i", "_law_n", "_law_total"] ["_law_row", "_law_i", "_law_n"] (defScope s_law_value) := ⟨rfl, rfl, rfl, by decide +kernel, rfl, by decide +kernel, by decide +kernel⟩
theorem ok_value {f : Addr} {fd : FuncData} (F : FnP K "_law_value" s_law_value f fd) (T : LwTx K mg) : FnOk P w K mg base CX0 1 f fd ["_law_row", "_law_i", "_law_n"] spValue := by
  refine F.ok sc_law_value (fun vs H Q E h => ?_) (fun cdv A outer s H vs Q E hr h => ?_)
  · obtain ⟨t, a, b, c, i, n, rfl, _⟩ := h
    rfl
  · obtain ⟨t, a, b, c, i, n, rfl, ht, ba, bb, bi, bn, k⟩ := h
    refine ⟨_, PSs.nox (pss_cons (ps_set (i := 3) sc_law_value.nd rfl (Or.inl rfl) (pe_op op_add (pe_op op_add (pe_op op_mulW (pe_ix ix_tup (pv 0) pe_int (fun _ _ => rfl)) (pv 1)) (pe_op op_mulW (pe_ix ix_tup (pv 0) pe_int (fun _ _ => rfl)) (pv 2))) (pe_ix ix_tup (pv 0) pe_int (fun _ _ => rfl))))
      (pss_cons (ps_if (pt_cmpR op_eq (pe_callB call_len_seq (by rfl) T.len PySem.boot_len (pa_cons (pv 0) pa_nil)) pe_int (nomark _)) (pss_one (ps_ret (pe_op op_fdivN (pv 3) (pe_ix ix_tup (pv 0) pe_int (fun _ _ => rfl))))) pss_nil)
      (pss_one (ps_ret (pv 3))))), ?_⟩
    refine ⟨_, rfl, t, _, _, _, rfl, rfl, sqt3 ht, at0, _, rfl, _, _, rfl, rfl, bd_c ba bi, ?_⟩
    refine ⟨_, rfl, t, _, _, _, rfl, rfl, sqt3 ht, at1, _, rfl, _, _, rfl, rfl, bd_c bb bn, _, _, rfl, rfl, ?_⟩
    refine ⟨_, rfl, t, _, _, _, rfl, rfl, sqt3 ht, at2, _, _, rfl, rfl, ?_⟩
    refine ⟨_, rfl, t, _, rfl, .inr (sqt3 ht), rfl, _, rfl, iteF ?_⟩
    exact ⟨_, rfl, k⟩
theorem sc_law_guard_due : FnScope ["_law_guard", "_law_a", "_law_b", "_law_c", "_law_m", "_law_g"] ["_law_guard"] (defScope s_law_guard_due) := ⟨rfl, rfl, rfl, by decide +kernel, rfl, by decide +kernel, by decide +kernel⟩
theorem ok_dueG {f : Addr} {fd : FuncData} (F : FnP K "_law_guard_due" s_law_guard_due f fd) (T : LwTx K mg) (dDivisor : Dn P w K mg base 1 "_law_divisor" ["_law_a", "_law_b"] spDivisor) : FnOk P w K mg base CX0 2 f fd ["_law_guard"] spDueG := by
  refine F.ok sc_law_guard_due (fun vs H Q E h => ?_) (fun cdv A outer s H vs Q E hr h => ?_)
  · obtain ⟨g, rfl, _⟩ := h
    rfl
  · obtain ⟨g, rfl, h⟩ := h
    refine ⟨_, PSs.nox (pss_cons (ps_asg (pe_ix ix_tup (pv 0) pe_int (fun _ _ => rfl)) (pg_tup (by rfl) (pgs_cons (pg_name (i := 1) sc_law_guard_due.nd rfl (.inl rfl)) (pgs_cons (pg_name (i := 2) sc_law_guard_due.nd rfl (.inl rfl)) (pgs_cons (pg_name (i := 3) sc_law_guard_due.nd rfl (.inl rfl)) pgs_nil)))))
      (pss_cons (ps_if (pt_cmpR op_eq (pe_ix ix_tup (pv 0) pe_int (fun _ _ => rfl)) pe_str (nomark _)) (pss_cons (ps_set (i := 4) sc_law_guard_due.nd rfl (Or.inl rfl) (pe_ix ix_tup (pv 0) pe_int (fun _ _ => rfl)))
      (pss_one (ps_ret (pe_tup (pa_cons (pe_op op_modN (pe_callTy call_int1 (by rfl) T.int (by decide +kernel) (pa_cons (pv 1) pa_nil)) (pv 4)) (pa_cons (pe_op op_modN (pe_callTy call_int1 (by rfl) T.int (by decide +kernel) (pa_cons (pv 2) pa_nil)) (pv 4)) (pa_cons pe_int (pa_cons (pv 4) (pa_cons (pe_op op_modN (pe_callTy call_int1 (by rfl) T.int (by decide +kernel) (pa_cons (pe_op op_sub (pe_ix ix_tup (pv 0) pe_int (fun _ _ => rfl)) (pv 3)) pa_nil)) (pv 4)) pa_nil))))))))) pss_nil)
      (pss_cons (ps_set (i := 5) sc_law_guard_due.nd rfl (Or.inl rfl) (pe_dn dDivisor hr (pa_cons (pv 1) (pa_cons (pv 2) pa_nil))))
      (pss_cons (ps_if (pt_cmpR op_eq (pv 5) pe_int (nomark _)) (pss_one (ps_ret (pe_tup (pa_cons pe_int (pa_cons pe_int (pa_cons (pe_ifExp (pt_cmpR op_ge (pv 3) pe_int (nomark _)) pe_int (pe_un un_neg pe_int)) pa_nil)))))) pss_nil)
      (pss_one (ps_ret (pe_tup (pa_cons (pe_op op_fdivN (pv 1) (pv 5)) (pa_cons (pe_op op_fdivN (pv 2) (pv 5)) (pa_cons (pe_op op_fdivN (pv 3) (pv 5)) pa_nil)))))))))), ?_⟩
    rcases h with ⟨a, b, c, ⟨t, hg, ht⟩, hsm, k⟩ | ⟨a, b, c, m, r, ⟨t, hg, ht⟩, m0, k⟩
    · refine ⟨_, rfl, g, _, _, _, rfl, rfl, SqT.of hg, at1, t, _, rfl, sqt3 ht, rfl, _, _, rfl, _, _, rfl, _, _, rfl, rfl, ?_⟩
      refine ⟨_, rfl, g, _, _, _, rfl, rfl, SqT.of hg, at0, rfl, _, rfl, if_no lr_ ?_⟩
      refine ⟨_, rfl, _, rfl, a, b, rfl, ?_⟩
      have k : ∀ t, H t = none → Q (.ref t) (upd H t (.tup [.int (a.fdiv (g2 a b)), .int (b.fdiv (g2 a b)), .int (lf3 a b c)])) := k
      refine ⟨_, rfl, rfl, _, rfl, ite2 (fun h0 => ?_) (fun h0 => ?_)⟩
      · have z0 : g2 a b = 0 := by
          have z : ((g2 a b : Nat) : Int) = 0 := V.int.inj (of_decide_eq_true h0)
          omega
        obtain ⟨rfl, rfl⟩ := g2_zero z0
        rw [Int.zero_fdiv] at k
        refine ⟨_, rfl, _, _, rfl, rfl, _, rfl, ite2 (fun hc => ?_) (fun hc => ?_)⟩
        · have hc1 : 0 ≤ c := of_decide_eq_true hc
          have e : lf3 0 0 c = 0 := by unfold lf3; rw [if_pos z0, if_pos hc1]
          rw [e] at k
          exact ⟨sz3, k⟩
        · have hc1 : ¬ 0 ≤ c := fun z => hc (decide_eq_true z)
          have e : lf3 0 0 c = -1 := by unfold lf3; rw [if_pos z0, if_neg hc1]
          rw [e] at k
          exact ⟨_, rfl, sz3, k⟩
      · have z0 : ¬ g2 a b = 0 := fun z => h0 (decide_eq_true (by
          show V.int ((g2 a b : Nat) : Int) = V.int 0
          rw [z]
          rfl))
        have hgc : ((g2 a b : Nat) : Int) ≠ 0 ∧ ((g2 a b : Nat) : Int).natAbs < 1073741824 := ⟨by omega, by omega⟩
        have e : lf3 a b c = c.fdiv (g2 a b) := by unfold lf3; rw [if_neg z0]
        rw [e] at k
        exact ⟨_, rfl, _, rfl, _, _, rfl, rfl, hgc, _, rfl, _, rfl, _, _, rfl, rfl, hgc, _, rfl, _, rfl, _, _, rfl, rfl, hgc, sz3, k⟩
    · refine ⟨_, rfl, g, _, _, _, rfl, rfl, SqT.of hg, at1, t, _, rfl, sqt3 ht, rfl, _, _, rfl, _, _, rfl, _, _, rfl, rfl, ?_⟩
      refine ⟨_, rfl, g, _, _, _, rfl, rfl, SqT.of hg, at0, rfl, _, rfl, if_yes rr_ ?_⟩
      refine ⟨_, rfl, g, _, _, _, rfl, rfl, SqT.of hg, at2, ?_⟩
      refine ⟨_, rfl, .inl ⟨_, rfl, _, rfl, _, _, rfl, rfl, m0, ?_⟩⟩
      refine ⟨_, rfl, .inl ⟨_, rfl, _, rfl, _, _, rfl, rfl, m0, ?_⟩⟩
      refine ⟨_, rfl, _, rfl, g, _, _, _, rfl, rfl, SqT.of hg, at3, _, rfl, _, _, rfl, rfl, .inl ⟨_, rfl, _, rfl, _, _, rfl, rfl, m0, sz5, k⟩⟩
theorem sc_law_guard_holds : FnScope ["_law_guard", "_law_i", "_law_n"] ["_law_guard", "_law_i", "_law_n"] (defScope s_law_guard_holds) := ⟨rfl, rfl, rfl, by decide +kernel, rfl, by decide +kernel, by decide +kernel⟩
theorem ok_guardH {f : Addr} {fd : FuncData} (F : FnP K "_law_guard_holds" s_law_guard_holds f fd) (T : LwTx K mg) (dValue : Dn P w K mg base 1 "_law_value" ["_law_row", "_law_i", "_law_n"] spValue) : FnOk P w K mg base CX0 2 f fd ["_law_guard", "_law_i", "_law_n"] spGuardH := by
  refine F.ok sc_law_guard_holds (fun vs H Q E h => ?_) (fun cdv A outer s H vs Q E hr h => ?_)
  · obtain ⟨g, h, i, n, rfl, _⟩ := h
    rfl
  · obtain ⟨g, h, i, n, rfl, hh, bi, bn, k⟩ := h
    refine ⟨_, PSs.nox (pss_cons (ps_if (pt_cmpR op_eq (pe_ix ix_tup (pv 0) pe_int (fun _ _ => rfl)) pe_str (nomark _)) (pss_one (ps_ret (pe_cmpR op_eq (pe_op op_modN (pe_callTy call_int1 (by rfl) T.int (by decide +kernel) (pa_cons (pe_dn dValue hr (pa_cons (pe_ix ix_tup (pv 0) pe_int (fun _ _ => rfl)) (pa_cons (pv 1) (pa_cons (pv 2) pa_nil)))) pa_nil)) (pe_ix ix_tup (pv 0) pe_int (fun _ _ => rfl))) (pe_ix ix_tup (pv 0) pe_int (fun _ _ => rfl)) (nomark _)))) pss_nil)
      (pss_one (ps_ret (pe_cmpR op_ge (pe_dn dValue hr (pa_cons (pe_ix ix_tup (pv 0) pe_int (fun _ _ => rfl)) (pa_cons (pv 1) (pa_cons (pv 2) pa_nil)))) pe_int (nomark _))))), ?_⟩
    rcases hh with ⟨a, b, c, ⟨t, hg, ht⟩, ba, bb, he⟩ | ⟨a, b, c, m, r, ⟨t, hg, ht⟩, ba, bb, m0, he⟩
    · rw [he] at k
      refine ⟨_, rfl, g, _, _, _, rfl, rfl, SqT.of hg, at0, rfl, _, rfl, if_no lr_ ?_⟩
      exact ⟨_, rfl, g, _, _, _, rfl, rfl, SqT.of hg, at1, _, rfl, _, rfl, t, a, b, c, i, n, rfl, ht, ba.mono (by decide), bb.mono (by decide), bi, bn, _, _, rfl, rfl, k⟩
    · rw [he] at k
      refine ⟨_, rfl, g, _, _, _, rfl, rfl, SqT.of hg, at0, rfl, _, rfl, if_yes rr_ ?_⟩
      refine ⟨_, rfl, g, _, _, _, rfl, rfl, SqT.of hg, at1, _, rfl, _, rfl, t, a, b, c, i, n, rfl, ht, ba.mono (by decide), bb.mono (by decide), bi, bn, .inl ⟨_, rfl, ?_⟩⟩
      refine ⟨_, rfl, g, _, _, _, rfl, rfl, SqT.of hg, at2, _, _, rfl, rfl, m0, _, rfl, g, _, _, _, rfl, rfl, SqT.of hg, at3, rfl, ?_⟩
      have e : decide (V.int ((a * i + b * n + c).fmod m) = V.int r) = decide ((a * i + b * n + c).fmod m = r) := decide_eq_decide.mpr ⟨V.int.inj, congrArg V.int⟩
      rw [← e] at k
      exact k
theorem sc_law_three : FnScope ["_law_pen_here"] ["_law_pen_here"] (defScope s_law_three) := ⟨rfl, rfl, rfl, by decide +kernel, rfl, by decide +kernel, by decide +kernel⟩
theorem ok_three {f : Addr} {fd : FuncData} (F : FnP K "_law_three" s_law_three f fd) (T : LwTx K mg) (dDraw : Dn P w K mg base 1 "_law_draw" ["_law_pen_here", "_law_many"] spDraw) (dBetween : Dn P w K mg base 2 "_law_between" ["_law_pen_here", "_law_least", "_law_most"] spBetween) (dFar : Dn P w K mg base 3 "_law_far" ["_law_pen_here"] spFar) : FnOk P w K mg base CX0 4 f fd ["_law_pen_here"] spThree := by
  refine F.ok sc_law_three (fun vs H Q E h => ?_) (fun cdv A outer s H vs Q E hr h => ?_)
  · obtain ⟨p, t, rfl, _⟩ := h
    rfl
  · obtain ⟨p, t, rfl, ht, hP, k⟩ := h
    refine ⟨_, PSs.nox (pss_cons (ps_if (pt_cmpR op_eq (pe_dn dDraw hr (pa_cons (pv 0) (pa_cons pe_int pa_nil))) pe_int (nomark _)) (pss_one (ps_ret (pe_tup (pa_cons (pe_dn dFar hr (pa_cons (pv 0) pa_nil)) (pa_cons (pe_un un_neg (pe_dn dFar hr (pa_cons (pv 0) pa_nil))) (pa_cons (pe_op op_sub (pe_dn dFar hr (pa_cons (pv 0) pa_nil)) pe_int) pa_nil)))))) pss_nil)
      (pss_one (ps_ret (pe_tup (pa_cons (pe_dn dBetween hr (pa_cons (pv 0) (pa_cons (pe_un un_neg pe_int) (pa_cons pe_int pa_nil)))) (pa_cons (pe_dn dBetween hr (pa_cons (pv 0) (pa_cons (pe_un un_neg pe_int) (pa_cons pe_int pa_nil)))) (pa_cons (pe_dn dBetween hr (pa_cons (pv 0) (pa_cons (pe_un un_neg pe_int) (pa_cons pe_int pa_nil)))) pa_nil))))))), ?_⟩
    refine ⟨_, rfl, p, 3, t, rfl, by decide, by decide, by omega, hP, fun H1 d d0 d1 hP1 k1 => ⟨rfl, _, rfl, ite2 (fun _ => ?_) (fun _ => ?_)⟩⟩
    · refine ⟨_, rfl, p, t + 1, rfl, by omega, hP1, fun H2 x x0 x1 hP2 k2 => ?_⟩
      refine ⟨_, rfl, p, t + 9, rfl, by omega, hP2, fun H3 y y0 y1 hP3 k3 => ⟨_, rfl, ?_⟩⟩
      refine ⟨_, rfl, p, t + 17, rfl, by omega, hP3, fun H4 z z0 z1 hP4 k4 => ⟨_, _, rfl, rfl, sz3, fun tt htt => ?_⟩⟩
      exact k _ tt x (-y) (z - 7) upd_same ((bd_far x0 x1).mono (by decide)) ((bd_far y0 y1).neg.mono (by decide)) ((bd_far z0 z1).sub (bd_small 7 (by omega) (by omega))) ((hP4.same (Same.new _ (Same.refl _) htt)).mono (by omega)) (k1.trans (k2.trans (k3.trans (Keep.new _ k4 htt))))
    · refine ⟨_, rfl, _, rfl, p, _, 99, t + 1, rfl, by decide, by decide, by omega, hP1, fun H2 x x0 x1 hP2 k2 => ?_⟩
      refine ⟨_, rfl, _, rfl, p, _, 99, t + 3, rfl, by decide, by decide, by omega, hP2, fun H3 y y0 y1 hP3 k3 => ?_⟩
      refine ⟨_, rfl, _, rfl, p, _, 99, t + 5, rfl, by decide, by decide, by omega, hP3, fun H4 z z0 z1 hP4 k4 => ⟨sz3, fun tt htt => ?_⟩⟩
      exact k _ tt x y z upd_same (bd_small 99 (by omega) (by omega)) (bd_small 99 (by omega) (by omega)) (bd_small 99 (by omega) (by omega)) ((hP4.same (Same.new _ (Same.refl _) htt)).mono (by omega)) (k1.trans (k2.trans (k3.trans (Keep.new _ k4 htt))))
/-- a sum may be called -/
structure SM (P : Program) (w : World) (K : PySem.W.Frag) (mg : Str → Option Value) (base : Heap) : Prop where
  call : ∃ fd, FnOk P w K mg base CX0 2 (He.ma K (CS K) "__call__") fd ["self", "i", "n"] (spValW K) ∧ Binds K fd ["self", "i", "n"] [] ∧ StX.CallO K (CS K) (He.ma K (CS K) "__call__")
  repl : ∃ fd, FnOk P w K mg base CX0 4 (He.ma K (CS K) "replaced") fd ["self", "factor", "shift"] (spReplW K) ∧ Binds K fd ["self", "factor", "shift"] [] ∧ Meth K (CS K) "replaced" (He.ma K (CS K) "replaced")
theorem sc_law_is_sum : FnScope ["_law_found", "_law_due", "_law_i", "_law_n"] ["_law_found", "_law_due", "_law_i", "_law_n"] (defScope s_law_is_sum) := ⟨rfl, rfl, rfl, by decide +kernel, rfl, by decide +kernel, by decide +kernel⟩
theorem ok_isSum {f : Addr} {fd : FuncData} (F : FnP K "_law_is_sum" s_law_is_sum f fd) (T : LwTx K mg) (SMm : SM P w K mg base) : FnOk P w K mg base CX0 3 f fd ["_law_found", "_law_due", "_law_i", "_law_n"] (spIsSum K) := by
  refine F.ok sc_law_is_sum (fun vs H Q E h => ?_) (fun cdv A outer s H vs Q E hr h => ?_)
  · obtain ⟨r, u, a, b, c, i, n, rfl, _⟩ := h
    rfl
  · obtain ⟨r, u, a, b, c, i, n, rfl, hS, hu, ba, bb, bi, bn, k⟩ := h
    obtain ⟨fdc, Fc, hbc, cc⟩ := SMm.call
    refine ⟨_, PSs.nox (pss_cons (ps_if (PW.pt (pw_or (pt_not (pt_val (pe_callB call_isi (by rfl) T.isi (by decide +kernel) (pa_cons (pv 0) (pa_cons (pe_glob (v := .ref (CS K)) rfl T.gS rfl) pa_nil))))) (pw_or1 (pt_cmpR (op_neD hr.units) (pe_tup (pa_cons (pe_fld (pv 0) rfl) (pa_cons (pe_fld (pv 0) rfl) (pa_cons (pe_fld (pv 0) rfl) pa_nil)))) (pv 1) (nomark _))))) (pss_one (ps_ret pe_bl)) pss_nil)
      (pss_one (ps_ret (pe_cmpR op_eq (StX.pe_callO (pv 0) cc (FnOk.raw Fc hbc .nil) (hr.mono (by decide)) pass0 (pa_cons (pv 2) (pa_cons (pv 3) pa_nil))) (pe_op op_add (pe_op op_add (pe_op op_mulW (pe_ix ix_tup (pv 1) pe_int (fun _ _ => rfl)) (pv 2)) (pe_op op_mulW (pe_ix ix_tup (pv 1) pe_int (fun _ _ => rfl)) (pv 3))) (pe_ix ix_tup (pv 1) pe_int (fun _ _ => rfl))) (nomark _))))), ?_⟩
    obtain ⟨dx, hp⟩ := id hS
    refine ⟨_, rfl, _, _, _, _, _, rfl, .own _, .base (T.ty hS), T.kSS, ?_⟩
    refine ⟨_, rfl, if_no rfl ?_⟩
    refine ⟨_, rfl, r, _, dx, _, _, rfl, hp, T.clS, T.nI, sf_i _ _ _, _, rfl, r, _, dx, _, _, rfl, hp, T.clS, T.nN, sf_n _ _ _, _, rfl, r, _, dx, _, _, rfl, hp, T.clS, T.nO, sf_one _ _ _, sz3, fun t3 ht3 => ⟨_, rfl, ?_⟩⟩
    refine ⟨_, _, dp3 upd_same, dp3 (at_upd _ hu ht3), tup3_shaped _ _ _, tup3_shaped _ _ _, _, rfl, if_no (eq_self (tup3_shaped _ _ _)) ?_⟩
    have s1 := Same.new (tup3 a b c) (Same.refl H) ht3
    have hS1 := hS.same s1
    obtain ⟨dx1, hp1⟩ := id hS1
    have hu1 := s1 _ _ hu
    refine ⟨_, rfl, r, rfl, _, rfl, _, rfl, .inr ⟨_, _, hp1⟩, r, a, b, c, i, n, rfl, hS1, ba, bb, bi, bn, ?_⟩
    refine ⟨_, rfl, u, _, _, _, rfl, rfl, sqt3 hu1, at0, _, rfl, _, _, rfl, rfl, bd_c ba bi, ?_⟩
    refine ⟨_, rfl, u, _, _, _, rfl, rfl, sqt3 hu1, at1, _, rfl, _, _, rfl, rfl, bd_c bb bn, _, _, rfl, rfl, ?_⟩
    refine ⟨_, rfl, u, _, _, _, rfl, rfl, sqt3 hu1, at2, _, _, rfl, rfl, rfl, ?_⟩
    rw [decide_eq_true rfl]
    exact k _ s1
theorem sc_law_refused_rest : FnScope ["_law_modulus", "_law_rest", "_law_told", "e"] ["_law_modulus", "_law_rest"] (defScope s_law_refused_rest) := ⟨rfl, rfl, rfl, by decide +kernel, rfl, by decide +kernel, by decide +kernel⟩
theorem ok_refusedR {f : Addr} {fd : FuncData} (F : FnP K "_law_refused_rest" s_law_refused_rest f fd) (T : LwTx K mg) (M : MkS P w K mg base) (MR : MkR P w K mg base) (EB : EC K mg "BadNumber" ["what", "number"])
    (ex : PySem.W.exmOne K (.ref (CB K)) (.ref (CB K)) = some true) : FnOk P w K mg base CX0 7 f fd ["_law_modulus", "_law_rest"] spRefusedR := by
  refine F.ok sc_law_refused_rest (fun vs H Q E h => ?_) (fun cdv A outer s H vs Q E hr h => ?_)
  · obtain ⟨m, r, rfl, _⟩ := h
    rfl
  · obtain ⟨m, r, rfl, k1, k2, k3⟩ := h
    refine ⟨_, PSs.nox (pss_cons (ps_set (i := 2) sc_law_refused_rest.nd rfl (Or.inl rfl) pe_non)
      (pss_cons (ps_try_as (i := 3) rfl rfl sc_law_refused_rest.nd rfl rfl ⟨rfl, by decide, .inl EB.gC⟩ takes0 (fun W pn xe tk _ => (pss_one (ps_expr (pe_RT (K := K) tk rfl T.toCoTx MR hr (pa_cons (pe_SK (K := K) rfl T.toStTx M hr (pa_cons pe_int (pa_cons pe_int (pa_cons pe_int pa_nil)))) (pa_cons (pv 0) (pa_cons (pv 1) pa_nil))))))) (fun a oe cls d pn hz hf => (pss_one (ps_set (i := 2) sc_law_refused_rest.nd rfl (Or.inl rfl) (pe_tup (pa_cons (pe_xf EB.ex.xf (EB.na _ (by simp)) hz hf (pv 3)) (pa_cons (pe_xf EB.ex.xf (EB.na _ (by simp)) hz hf (pv 3)) pa_nil)))))))
      (pss_one (ps_ret (pv 2))))), ?_⟩
    refine ⟨1, 1, 0, rfl, fun p H1 s1 _ hS => ⟨_, rfl, _, rfl, _, m, r, rfl, 1, 1, 0, .inl ⟨p, rfl, hS⟩, fun hm e H2 s2 he => ?_, fun h2 h4 hq e H2 s2 he => ?_, fun h2 h4 hq0 hq1 y H2 s2 hy => ?_⟩⟩
    · refine ⟨true, ex, fun _ a ha => ?_, fun q => Bool.noConfusion q⟩
      refine ⟨_, rfl, rfl, rfl, e, _, _, rfl, he, look_w, _, rfl, rfl, rfl, e, _, _, rfl, he, look_n, sz2, fun t ht => ?_⟩
      exact ⟨_, rfl, k1 hm t _ (Same.new _ (s1.trans s2) ht) upd_same⟩
    · refine ⟨true, ex, fun _ a ha => ?_, fun q => Bool.noConfusion q⟩
      refine ⟨_, rfl, rfl, rfl, e, _, _, rfl, he, look_w, _, rfl, rfl, rfl, e, _, _, rfl, he, look_n, sz2, fun t ht => ?_⟩
      exact ⟨_, rfl, k2 h2 h4 hq t _ (Same.new _ (s1.trans s2) ht) upd_same⟩
    · exact ⟨_, rfl, k3 h2 h4 hq0 hq1 _ (s1.trans s2)⟩
end
end K21

set_option maxHeartbeats 4000000
namespace K21
open PySem PySem.Spec PyProof.Rows L2 Z
theorem ifI {b : Bool} {i j : Int} {σ : L2.St} {H : Hp} {Q : VK} (h : Q (.int (if b = true then i else j)) H) : if b = true then tC (.int i) σ H Q else tC (.int j) σ H Q := by
  cases b
  · exact h
  · exact h
theorem eqv3 (a b c x y z : Int) : PyData.eqv (.tuple [.int a, .int b, .int c]) (.tuple [.int x, .int y, .int z]) = decide (a = x ∧ b = y ∧ c = z) := by
  simp [PyData.eqv, PyData.eqvAll]
  rfl
theorem near_eq {a b c w : Int} (h0 : 0 ≤ w) (h4 : w < 4) : decide (a + (if decide (V.int w = V.int 1) = true then 1 else 0) = a ∧ b + (if decide (V.int w = V.int 2) = true then 1 else 0) = b ∧ c + (if decide (V.int w = V.int 3) = true then 1 else 0) = c) = decide (V.int w = V.int 0) := by
  have h : w = 0 ∨ w = 1 ∨ w = 2 ∨ w = 3 := by omega
  rcases h with z | z | z | z <;> subst z <;> simp [V.int.injEq] <;> omega
theorem dp6 {K : PySem.W.Frag} {H : Hp} {t : Addr} {a b c x y z : Int} (h : H t = some (.tup [.int a, .int b, .int c, .int x, .int y, .int z])) : Dp K H (.ref t) (.tuple [.int a, .int b, .int c, .int x, .int y, .int z]) := .tup (SqT.of h) (.cons (.int _) (.cons (.int _) (.cons (.int _) (.cons (.int _) (.cons (.int _) (.cons (.int _) .nil))))))
theorem tup6_shaped (a b c x y z : Int) : SeqAt.shaped (.tuple [.int a, .int b, .int c, .int x, .int y, .int z]) = true := by simp [SeqAt.shaped, PyData.canLay0, PyData.canLayAll0, PyData.depth, PyData.depthAll]
theorem sz6 : 6 ≤ sizeLine := by show 6 ≤ sizeLine; decide
theorem sz10 : 10 ≤ sizeLine := by show 10 ≤ sizeLine; decide
theorem norm {N : L2.St → Hp → Prop} {σ σ' : L2.St} {H : Hp} (e : σ = σ') (h : N σ' H) : N σ H := e ▸ h
theorem normG {i : Nat} {v : V} {σ σ' : L2.St} {H : Hp} {N : L2.St → Hp → Prop} (e : σ.set i (some v) = σ') (h : N σ' H) : gName i v σ H N := by
  subst e
  exact h
theorem change {N : Hp → Prop} {H H' : Hp} (e : H = H') (h : N H') : N H := e ▸ h
theorem all_of {K : PySem.W.Frag} {H : Hp} {xx yy : V} {r u : Addr} {a b c : Int} (h1 : xx = .ref r) (h2 : yy = .ref u) (h3 : StrAt K H r a b c) (h4 : H u = some (tup3 a b c)) (h5 : Bd 400 a) (h6 : Bd 400 b) : ∃ r u a b c, xx = .ref r ∧ yy = .ref u ∧ StrAt K H r a b c ∧ H u = some (tup3 a b c) ∧ Bd 400 a ∧ Bd 400 b := ⟨r, u, a, b, c, h1, h2, h3, h4, h5, h6⟩
def spPair : Sp := fun vs H Q _ => ∃ (p : Addr) (t : Nat), vs = [.ref p] ∧ t < 600000000 ∧ Pen H p t ∧ ∀ H', Pen H' p (t + 100) → Keep p H H' → Q (.bl true) H'
structure Ops (P : Program) (w : World) (K : PySem.W.Frag) (mg : Str → Option Value) (base : Heap) : Prop where
  sa : Om P w K mg base (CS K) 4 (dunder "add") (spSAdd K)
  ra : Om P w K mg base (CS K) 4 (dunderR "add") (spSRadd K)
  ss : Om P w K mg base (CS K) 4 (dunder "sub") (spSSub K)
  rs : Om P w K mg base (CS K) 4 (dunderR "sub") (spSRsub K)
  sm : Om P w K mg base (CS K) 3 (dunder "mul") (spSMulW K)
  sr : Om P w K mg base (CS K) 3 (dunderR "mul") (spSMulW K)
  sn : Om P w K mg base (CS K) 3 "__neg__" (spSNeg K)
  es : Om P w K mg base (CS K) 1 "__eq__" (spSEq K)
  ia : OpI K (CS K) "add"
  im : OpI K (CS K) "mul"
  is_ : OpI K (CS K) "sub"
  ne : NeC K (CS K)
  nS : PySem.W.notFirst K (CS K) (.ref (CS K)) = true
  ni : PySem.W.notFirst K (CS K) (.type "int") = true
  nt : PySem.W.notFirst K (CS K) (.type "str") = true
  nu : PySem.W.notFirst K (CS K) (.type "tuple") = true
  kt : PySem.W.kitOne K (.type "str") (.ref (CS K)) = some false
  ku : PySem.W.kitOne K (.type "tuple") (.ref (CS K)) = some false
section
variable {P : Program} {w : World} {K : PySem.W.Frag} {mg : Str → Option Value} {base : Heap}
theorem sc_law_pair_right : FnScope ["_law_pen_here", "_law_a", "_law_b", "_law_c", "_law_x", "_law_y", "_law_z", "_law_one", "_law_other", "_law_k", "_law_i", "_law_n", "_law_found", "_law_due", "_law_told", "_law_row", "_law_way", "_law_near", "_law_f", "_law_s"] ["_law_pen_here"] (defScope s_law_pair_right) := ⟨rfl, rfl, rfl, by decide +kernel, rfl, by decide +kernel, by decide +kernel⟩
theorem ok_pair {f : Addr} {fd : FuncData} (F : FnP K "_law_pair_right" s_law_pair_right f fd) (T : LwTx K mg) (M : MkS P w K mg base) (SMm : SM P w K mg base) (O : Ops P w K mg base)
    (dDraw : Dn P w K mg base 1 "_law_draw" ["_law_pen_here", "_law_many"] spDraw) (dBetween : Dn P w K mg base 2 "_law_between" ["_law_pen_here", "_law_least", "_law_most"] spBetween) (dFar : Dn P w K mg base 3 "_law_far" ["_law_pen_here"] spFar)
    (dThree : Dn P w K mg base 4 "_law_three" ["_law_pen_here"] spThree) (dIsSum : Dn P w K mg base 3 "_law_is_sum" ["_law_found", "_law_due", "_law_i", "_law_n"] (spIsSum K)) : FnOk P w K mg base CX0 6 f fd ["_law_pen_here"] spPair := by
  refine F.ok sc_law_pair_right (fun vs H Q E h => ?_) (fun cdv A outer s H vs Q E hr h => ?_)
  · obtain ⟨p, t, rfl, _⟩ := h
    rfl
  · obtain ⟨p, t, rfl, ht, hP, kk⟩ := h
    obtain ⟨fdr, Fr, hbr, cr⟩ := SMm.repl
    refine ⟨_, PSs.nox (pss_cons (ps_asg (pe_dn dThree hr (pa_cons (pv 0) pa_nil)) (pg_tup (by rfl) (pgs_cons (pg_name (i := 1) sc_law_pair_right.nd rfl (.inl rfl)) (pgs_cons (pg_name (i := 2) sc_law_pair_right.nd rfl (.inl rfl)) (pgs_cons (pg_name (i := 3) sc_law_pair_right.nd rfl (.inl rfl)) pgs_nil)))))
      (pss_cons (ps_asg (pe_dn dThree hr (pa_cons (pv 0) pa_nil)) (pg_tup (by rfl) (pgs_cons (pg_name (i := 4) sc_law_pair_right.nd rfl (.inl rfl)) (pgs_cons (pg_name (i := 5) sc_law_pair_right.nd rfl (.inl rfl)) (pgs_cons (pg_name (i := 6) sc_law_pair_right.nd rfl (.inl rfl)) pgs_nil)))))
      (pss_cons (ps_par (i := 7) (j := 8) (by rfl) sc_law_pair_right.nd rfl rfl (by decide) rfl rfl (pa_cons (pe_S T.toStTx M hr (pa_cons (pv 1) (pa_cons (pv 2) (pa_cons (pv 3) pa_nil)))) (pa_cons (pe_S T.toStTx M hr (pa_cons (pv 4) (pa_cons (pv 5) (pa_cons (pv 6) pa_nil)))) pa_nil)) (by rfl))
      (pss_cons (ps_par3 (i := 9) (j := 10) (l := 11) (by rfl) sc_law_pair_right.nd rfl rfl rfl (by decide) (by decide) (by decide) rfl rfl rfl (pa_cons (pe_dn dBetween hr (pa_cons (pv 0) (pa_cons (pe_un un_neg pe_int) (pa_cons pe_int pa_nil)))) (pa_cons (pe_dn dFar hr (pa_cons (pv 0) pa_nil)) (pa_cons (pe_dn dFar hr (pa_cons (pv 0) pa_nil)) pa_nil))) (by rfl))
      (pss_cons (ps_set (i := 12) sc_law_pair_right.nd rfl (Or.inl rfl) (pe_lst (pa_cons (pe_op (op_own O.sa O.ia hr) (pv 7) (pv 8)) (pa_cons (pe_op (op_own O.ss O.is_ hr) (pv 7) (pv 8)) (pa_cons (pe_op (op_ownI O.sa O.ia hr) (pv 7) (pv 9)) (pa_cons (pe_op (op_reflAdd O.sa O.ra O.ia hr) (pv 9) (pv 7)) (pa_cons (pe_op (op_ownI O.ss O.is_ hr) (pv 7) (pv 9)) (pa_cons (pe_op (op_reflSub O.ss O.rs O.is_ hr) (pv 9) (pv 7)) (pa_cons (pe_op (op_ownI O.sm O.im hr) (pv 7) (pv 9)) (pa_cons (pe_op (op_reflMul O.sm O.sr O.im hr) (pv 9) (pv 7)) (pa_cons (pe_un (un_own O.sn hr) (pv 7)) (pa_cons (pe_op (op_ownI O.sa O.ia hr) (pv 7) pe_int) pa_nil))))))))))))
      (pss_cons (ps_set (i := 13) sc_law_pair_right.nd rfl (Or.inl rfl) (pe_lst (pa_cons (pe_tup (pa_cons (pe_op op_add (pv 1) (pv 4)) (pa_cons (pe_op op_add (pv 2) (pv 5)) (pa_cons (pe_op op_add (pv 3) (pv 6)) pa_nil)))) (pa_cons (pe_tup (pa_cons (pe_op op_sub (pv 1) (pv 4)) (pa_cons (pe_op op_sub (pv 2) (pv 5)) (pa_cons (pe_op op_sub (pv 3) (pv 6)) pa_nil)))) (pa_cons (pe_tup (pa_cons (pv 1) (pa_cons (pv 2) (pa_cons (pe_op op_add (pv 3) (pv 9)) pa_nil)))) (pa_cons (pe_tup (pa_cons (pv 1) (pa_cons (pv 2) (pa_cons (pe_op op_add (pv 9) (pv 3)) pa_nil)))) (pa_cons (pe_tup (pa_cons (pv 1) (pa_cons (pv 2) (pa_cons (pe_op op_sub (pv 3) (pv 9)) pa_nil)))) (pa_cons (pe_tup (pa_cons (pe_un un_neg (pv 1)) (pa_cons (pe_un un_neg (pv 2)) (pa_cons (pe_op op_sub (pv 9) (pv 3)) pa_nil)))) (pa_cons (pe_tup (pa_cons (pe_op op_mulW (pv 1) (pv 9)) (pa_cons (pe_op op_mulW (pv 2) (pv 9)) (pa_cons (pe_op op_mulW (pv 3) (pv 9)) pa_nil)))) (pa_cons (pe_tup (pa_cons (pe_op op_mulW (pv 1) (pv 9)) (pa_cons (pe_op op_mulW (pv 2) (pv 9)) (pa_cons (pe_op op_mulW (pv 3) (pv 9)) pa_nil)))) (pa_cons (pe_tup (pa_cons (pe_un un_neg (pv 1)) (pa_cons (pe_un un_neg (pv 2)) (pa_cons (pe_un un_neg (pv 3)) pa_nil)))) (pa_cons (pe_tup (pa_cons (pv 1) (pa_cons (pv 2) (pa_cons (pv 3) pa_nil)))) pa_nil))))))))))))
      (pss_cons (ps_for PassesOwn.never rfl (pi_zip (by rfl) T.zip (pa_cons (pv 12) (pa_cons (pv 13) pa_nil))) (pg_tup (by rfl) (pgs_cons (pg_name (i := 14) sc_law_pair_right.nd rfl (.inl rfl)) (pgs_cons (pg_name (i := 15) sc_law_pair_right.nd rfl (.inl rfl)) pgs_nil))) (pss_one (ps_if (pt_not (pt_val (pe_dn dIsSum hr (pa_cons (pv 14) (pa_cons (pv 15) (pa_cons (pv 10) (pa_cons (pv 11) pa_nil))))))) (pss_one (ps_ret pe_bl)) pss_nil)))
      (pss_cons (ps_set (i := 16) sc_law_pair_right.nd rfl (Or.inl rfl) (pe_dn dDraw hr (pa_cons (pv 0) (pa_cons pe_int pa_nil))))
      (pss_cons (ps_set (i := 17) sc_law_pair_right.nd rfl (Or.inl rfl) (pe_S T.toStTx M hr (pa_cons (pe_op op_add (pv 1) (pe_ifExp (pt_cmpR op_eq (pv 16) pe_int (nomark _)) pe_int pe_int)) (pa_cons (pe_op op_add (pv 2) (pe_ifExp (pt_cmpR op_eq (pv 16) pe_int (nomark _)) pe_int pe_int)) (pa_cons (pe_op op_add (pv 3) (pe_ifExp (pt_cmpR op_eq (pv 16) pe_int (nomark _)) pe_int pe_int)) pa_nil)))))
      (pss_cons (ps_if (PW.pt (pw_or (pt_cmpR op_ne (pe_cmpR (op_eqOwn O.es hr) (pv 17) (pv 7) (nomark _)) (pe_cmpR op_eq (pv 16) pe_int (nomark _)) (nomark _)) (pw_or1 (pt_cmpR op_ne (pe_cmpR (op_eqOwn O.es hr) (pv 7) (pv 8) (nomark _)) (pe_cmpR (op_eqD hr.units) (pe_tup (pa_cons (pv 1) (pa_cons (pv 2) (pa_cons (pv 3) pa_nil)))) (pe_tup (pa_cons (pv 4) (pa_cons (pv 5) (pa_cons (pv 6) pa_nil)))) (nomark _)) (nomark _))))) (pss_one (ps_ret pe_bl)) pss_nil)
      (pss_cons (ps_if (PW.pt (pw_or (pt_cmpR (op_eqOwn O.es hr) (pe_S T.toStTx M hr (pa_cons pe_int (pa_cons pe_int (pa_cons (pv 9) pa_nil)))) (pv 9) (nomark _)) (pw_or (pt_cmpR (op_eqOwn O.es hr) (pv 7) (pe_tup (pa_cons (pv 1) (pa_cons (pv 2) (pa_cons (pv 3) pa_nil)))) (nomark _)) (pw_or (pt_cmpR (op_eqOwn O.es hr) (pv 7) pe_str (nomark _)) (pw_or1 (pt_not (pt_cmpR (op_neOwn O.es O.ne hr) (pe_S T.toStTx M hr (pa_cons pe_int (pa_cons pe_int (pa_cons (pv 9) pa_nil)))) (pv 9) (nomark _)))))))) (pss_one (ps_ret pe_bl)) pss_nil)
      (pss_cons (ps_par (i := 18) (j := 19) (by rfl) sc_law_pair_right.nd rfl rfl (by decide) rfl rfl (pa_cons (pe_op op_sub (pe_dn dDraw hr (pa_cons (pv 0) (pa_cons pe_int pa_nil))) pe_int) (pa_cons (pe_dn dBetween hr (pa_cons (pv 0) (pa_cons (pe_un un_neg pe_int) (pa_cons pe_int pa_nil)))) pa_nil)) (by rfl))
      (pss_cons (ps_if (pt_not (pt_val (pe_dn dIsSum hr (pa_cons (pe_meth (pv 7) T.clS cr Fr (hr.mono (by decide)) hbr .nil pass0 (pa_cons (pv 18) (pa_cons (pv 19) pa_nil))) (pa_cons (pe_tup (pa_cons (pe_op op_mulW (pv 1) (pv 18)) (pa_cons (pv 2) (pa_cons (pe_op op_add (pe_op op_mulW (pv 1) (pv 19)) (pv 3)) pa_nil)))) (pa_cons (pv 10) (pa_cons (pv 11) pa_nil))))))) (pss_one (ps_ret pe_bl)) pss_nil)
      (pss_one (ps_ret (pe_cmpR (op_eqD hr.units) (pe_tup (pa_cons (pe_fld (pv 7) rfl) (pa_cons (pe_fld (pv 7) rfl) (pa_cons (pe_fld (pv 7) rfl) (pa_cons (pe_fld (pv 8) rfl) (pa_cons (pe_fld (pv 8) rfl) (pa_cons (pe_fld (pv 8) rfl) pa_nil))))))) (pe_tup (pa_cons (pv 1) (pa_cons (pv 2) (pa_cons (pv 3) (pa_cons (pv 4) (pa_cons (pv 5) (pa_cons (pv 6) pa_nil))))))) (nomark _))))))))))))))))), ?_⟩
    refine ⟨_, rfl, p, t, rfl, by omega, hP, fun H1 t1 a b c h1 ba bb bc hP1 k1 => ⟨t1, _, rfl, sqt3 h1, rfl, _, _, rfl, _, _, rfl, _, _, rfl, rfl, ?_⟩⟩
    refine ⟨_, rfl, p, t + 30, rfl, by omega, hP1, fun H2 t2 x y z h2 bx by_ bz hP2 k2 => ⟨t2, _, rfl, sqt3 h2, rfl, _, _, rfl, _, _, rfl, _, _, rfl, rfl, ?_⟩⟩
    refine ⟨_, rfl, _, rfl, _, rfl, a, b, c, rfl, fun r1 H3 s3 _ hA => ⟨_, rfl, _, rfl, _, rfl, x, y, z, rfl, fun r2 H4 s4 _ hB => ⟨_, _, rfl, ?_⟩⟩⟩
    have hA4 := hA.same s4
    have hP4 : Pen H4 p (t + 60) := hP2.same (s3.trans s4)
    have kA : Keep p H H4 := k1.trans (k2.trans (Keep.of (s3.trans s4)))
    refine ⟨_, rfl, _, rfl, p, _, 99, t + 60, rfl, by decide, by decide, by omega, hP4, fun H5 k k0 k1' hP5 k5 => ?_⟩
    refine ⟨_, rfl, p, t + 62, rfl, by omega, hP5, fun H6 i i0 i1 hP6 k6 => ?_⟩
    refine ⟨_, rfl, p, t + 70, rfl, by omega, hP6, fun H7 n n0 n1 hP7 k7 => ⟨_, _, _, rfl, ?_⟩⟩
    have one := ((hA4.keep hP4 k5).keep hP5 k6).keep hP6 k7
    have oth := ((hB.keep hP4 k5).keep hP5 k6).keep hP6 k7
    have kB : Keep p H H7 := kA.trans (k5.trans (k6.trans k7))
    have bk : Bd 7 k := bd_small 99 (by omega) (by omega)
    have bi : Bd 400 i := (bd_far i0 i1).mono (by decide)
    have bn : Bd 400 n := (bd_far n0 n1).mono (by decide)
    clear h1 h2 hP hP1 hP2 hP4 hP5 hP6 k1 k2 kA k5 k6 k7 hA hB hA4 s3 s4
    refine norm (σ' := [some (.ref p), some (.int a), some (.int b), some (.int c), some (.int x), some (.int y), some (.int z), some (.ref r1), some (.ref r2), some (.int k), some (.int i), some (.int n), none, none, none, none, none, none, none, none]) rfl ?_
    -- the ten sums
    obtain ⟨d1, q1⟩ := id one
    obtain ⟨d2, q2⟩ := id oth
    refine ⟨_, rfl, _, rfl, r1, r2, d1, d2, _, _, rfl, rfl, q1, q2, r1, a, b, c, x, y, z, .ref r2, rfl, one, .inl ⟨r2, rfl, oth⟩, fun f0 G0 z0 e0 => ?_⟩
    replace one := one.same z0
    replace oth := oth.same z0
    obtain ⟨d1, q1⟩ := id one
    obtain ⟨d2, q2⟩ := id oth
    refine ⟨_, rfl, _, rfl, r1, r2, d1, d2, _, _, rfl, rfl, q1, q2, r1, a, b, c, x, y, z, .ref r2, rfl, one, .inl ⟨r2, rfl, oth⟩, fun f1 G1 z1 e1 => ?_⟩
    replace e0 := e0.same z1
    replace one := one.same z1
    replace oth := oth.same z1
    obtain ⟨d1, q1⟩ := id one
    obtain ⟨d2, q2⟩ := id oth
    refine ⟨_, rfl, _, rfl, r1, d1, _, k, rfl, rfl, q1, r1, a, b, c, 0, 0, k, .int k, rfl, one, .inr ⟨rfl, rfl, rfl⟩, fun f2 G2 z2 e2 => ?_⟩
    replace e0 := e0.same z2
    replace e1 := e1.same z2
    replace one := one.same z2
    replace oth := oth.same z2
    obtain ⟨d1, q1⟩ := id one
    obtain ⟨d2, q2⟩ := id oth
    refine ⟨_, rfl, _, rfl, r1, d1, _, k, rfl, rfl, q1, r1, a, b, c, 0, 0, k, .int k, rfl, one, .inr ⟨rfl, rfl, rfl⟩, fun f3 G3 z3 e3 => ?_⟩
    replace e0 := e0.same z3
    replace e1 := e1.same z3
    replace e2 := e2.same z3
    replace one := one.same z3
    replace oth := oth.same z3
    obtain ⟨d1, q1⟩ := id one
    obtain ⟨d2, q2⟩ := id oth
    refine ⟨_, rfl, _, rfl, r1, d1, _, k, rfl, rfl, q1, r1, a, b, c, 0, 0, k, .int k, rfl, one, .inr ⟨rfl, rfl, rfl⟩, fun f4 G4 z4 e4 => ?_⟩
    replace e0 := e0.same z4
    replace e1 := e1.same z4
    replace e2 := e2.same z4
    replace e3 := e3.same z4
    replace one := one.same z4
    replace oth := oth.same z4
    obtain ⟨d1, q1⟩ := id one
    obtain ⟨d2, q2⟩ := id oth
    refine ⟨_, rfl, _, rfl, r1, d1, _, k, rfl, rfl, q1, r1, a, b, c, 0, 0, k, .int k, rfl, one, .inr ⟨rfl, rfl, rfl⟩, fun f5 G5 z5 e5 => ?_⟩
    replace e0 := e0.same z5
    replace e1 := e1.same z5
    replace e2 := e2.same z5
    replace e3 := e3.same z5
    replace e4 := e4.same z5
    replace one := one.same z5
    replace oth := oth.same z5
    obtain ⟨d1, q1⟩ := id one
    obtain ⟨d2, q2⟩ := id oth
    refine ⟨_, rfl, _, rfl, r1, d1, _, k, rfl, rfl, q1, r1, a, b, c, k, rfl, one, bk.mono (by decide), ba.mono (by decide), bb.mono (by decide), bc.mono (by decide), fun f6 G6 z6 _ e6 => ?_⟩
    replace e0 := e0.same z6
    replace e1 := e1.same z6
    replace e2 := e2.same z6
    replace e3 := e3.same z6
    replace e4 := e4.same z6
    replace e5 := e5.same z6
    replace one := one.same z6
    replace oth := oth.same z6
    obtain ⟨d1, q1⟩ := id one
    obtain ⟨d2, q2⟩ := id oth
    refine ⟨_, rfl, _, rfl, r1, d1, _, k, rfl, rfl, q1, r1, a, b, c, k, rfl, one, bk.mono (by decide), ba.mono (by decide), bb.mono (by decide), bc.mono (by decide), fun f7 G7 z7 _ e7 => ?_⟩
    replace e0 := e0.same z7
    replace e1 := e1.same z7
    replace e2 := e2.same z7
    replace e3 := e3.same z7
    replace e4 := e4.same z7
    replace e5 := e5.same z7
    replace e6 := e6.same z7
    replace one := one.same z7
    replace oth := oth.same z7
    obtain ⟨d1, q1⟩ := id one
    obtain ⟨d2, q2⟩ := id oth
    refine ⟨_, rfl, r1, d1, _, rfl, q1, r1, a, b, c, rfl, one, fun f8 G8 z8 _ e8 => ?_⟩
    replace e0 := e0.same z8
    replace e1 := e1.same z8
    replace e2 := e2.same z8
    replace e3 := e3.same z8
    replace e4 := e4.same z8
    replace e5 := e5.same z8
    replace e6 := e6.same z8
    replace e7 := e7.same z8
    replace one := one.same z8
    replace oth := oth.same z8
    obtain ⟨d1, q1⟩ := id one
    obtain ⟨d2, q2⟩ := id oth
    refine ⟨_, rfl, r1, d1, _, 0, rfl, rfl, q1, r1, a, b, c, 0, 0, 0, .int 0, rfl, one, .inr ⟨rfl, rfl, rfl⟩, fun f9 G9 z9 e9 => ?_⟩
    replace e0 := e0.same z9
    replace e1 := e1.same z9
    replace e2 := e2.same z9
    replace e3 := e3.same z9
    replace e4 := e4.same z9
    replace e5 := e5.same z9
    replace e6 := e6.same z9
    replace e7 := e7.same z9
    replace e8 := e8.same z9
    replace one := one.same z9
    replace oth := oth.same z9
    obtain ⟨d1, q1⟩ := id one
    obtain ⟨d2, q2⟩ := id oth
    have sF : Same H7 G9 := z0.trans (z1.trans (z2.trans (z3.trans (z4.trans (z5.trans (z6.trans (z7.trans (z8.trans (z9)))))))))
    refine ⟨sz10, fun lf hlf => ?_⟩
    have sL : Same G9 (upd G9 lf (.lst [.ref f0, .ref f1, .ref f2, .ref f3, .ref f4, .ref f5, .ref f6, .ref f7, .ref f8, .ref f9])) := Same.new _ (Same.refl _) hlf
    have hLf : (upd G9 lf (.lst [.ref f0, .ref f1, .ref f2, .ref f3, .ref f4, .ref f5, .ref f6, .ref f7, .ref f8, .ref f9])) lf = some (.lst [.ref f0, .ref f1, .ref f2, .ref f3, .ref f4, .ref f5, .ref f6, .ref f7, .ref f8, .ref f9]) := upd_same
    replace e0 := e0.same sL
    replace e1 := e1.same sL
    replace e2 := e2.same sL
    replace e3 := e3.same sL
    replace e4 := e4.same sL
    replace e5 := e5.same sL
    replace e6 := e6.same sL
    replace e7 := e7.same sL
    replace e8 := e8.same sL
    replace e9 := e9.same sL
    replace one := one.same sL
    replace oth := oth.same sL
    have sG := sF.trans sL
    generalize upd G9 lf (.lst [.ref f0, .ref f1, .ref f2, .ref f3, .ref f4, .ref f5, .ref f6, .ref f7, .ref f8, .ref f9]) = L0 at *
    clear hlf q1 q2 sF sL z0 z1 z2 z3 z4 z5 z6 z7 z8 z9
    refine normG (σ' := [some (.ref p), some (.int a), some (.int b), some (.int c), some (.int x), some (.int y), some (.int z), some (.ref r1), some (.ref r2), some (.int k), some (.int i), some (.int n), some (.ref lf), none, none, none, none, none, none, none]) rfl ?_
    -- what they must be
    refine ⟨_, rfl, _, rfl, _, _, rfl, rfl, _, rfl, _, rfl, _, _, rfl, rfl, _, rfl, _, rfl, _, _, rfl, rfl, sz3, fun u0 g0 => ?_⟩
    have v0 : (upd L0 u0 (tup3 (a + x) (b + y) (c + z))) u0 = some (tup3 (a + x) (b + y) (c + z)) := upd_same
    have y0 : Same L0 (upd L0 u0 (tup3 (a + x) (b + y) (c + z))) := Same.new _ (Same.refl _) g0
    obtain ⟨L1, hL1⟩ : ∃ L, L = upd L0 u0 (tup3 (a + x) (b + y) (c + z)) := ⟨_, rfl⟩
    rw [← hL1] at v0 y0
    refine change (H' := L1) hL1.symm ?_
    refine ⟨_, rfl, _, rfl, _, _, rfl, rfl, _, rfl, _, rfl, _, _, rfl, rfl, _, rfl, _, rfl, _, _, rfl, rfl, sz3, fun u1 g1 => ?_⟩
    have v1 : (upd L1 u1 (tup3 (a - x) (b - y) (c - z))) u1 = some (tup3 (a - x) (b - y) (c - z)) := upd_same
    have y1 : Same L1 (upd L1 u1 (tup3 (a - x) (b - y) (c - z))) := Same.new _ (Same.refl _) g1
    obtain ⟨L2, hL2⟩ : ∃ L, L = upd L1 u1 (tup3 (a - x) (b - y) (c - z)) := ⟨_, rfl⟩
    rw [← hL2] at v1 y1
    refine change (H' := L2) hL2.symm ?_
    refine ⟨_, rfl, _, rfl, _, rfl, _, rfl, _, _, rfl, rfl, sz3, fun u2 g2 => ?_⟩
    have v2 : (upd L2 u2 (tup3 (a) (b) (c + k))) u2 = some (tup3 (a) (b) (c + k)) := upd_same
    have y2 : Same L2 (upd L2 u2 (tup3 (a) (b) (c + k))) := Same.new _ (Same.refl _) g2
    obtain ⟨L3, hL3⟩ : ∃ L, L = upd L2 u2 (tup3 (a) (b) (c + k)) := ⟨_, rfl⟩
    rw [← hL3] at v2 y2
    refine change (H' := L3) hL3.symm ?_
    refine ⟨_, rfl, _, rfl, _, rfl, _, rfl, _, _, rfl, rfl, sz3, fun u3 g3 => ?_⟩
    have v3 : (upd L3 u3 (tup3 (a) (b) (k + c))) u3 = some (tup3 (a) (b) (k + c)) := upd_same
    have y3 : Same L3 (upd L3 u3 (tup3 (a) (b) (k + c))) := Same.new _ (Same.refl _) g3
    obtain ⟨L4, hL4⟩ : ∃ L, L = upd L3 u3 (tup3 (a) (b) (k + c)) := ⟨_, rfl⟩
    rw [← hL4] at v3 y3
    refine change (H' := L4) hL4.symm ?_
    refine ⟨_, rfl, _, rfl, _, rfl, _, rfl, _, _, rfl, rfl, sz3, fun u4 g4 => ?_⟩
    have v4 : (upd L4 u4 (tup3 (a) (b) (c - k))) u4 = some (tup3 (a) (b) (c - k)) := upd_same
    have y4 : Same L4 (upd L4 u4 (tup3 (a) (b) (c - k))) := Same.new _ (Same.refl _) g4
    obtain ⟨L5, hL5⟩ : ∃ L, L = upd L4 u4 (tup3 (a) (b) (c - k)) := ⟨_, rfl⟩
    rw [← hL5] at v4 y4
    refine change (H' := L5) hL5.symm ?_
    refine ⟨_, rfl, _, rfl, _, rfl, _, rfl, _, rfl, _, rfl, _, _, rfl, rfl, sz3, fun u5 g5 => ?_⟩
    have v5 : (upd L5 u5 (tup3 (-a) (-b) (k - c))) u5 = some (tup3 (-a) (-b) (k - c)) := upd_same
    have y5 : Same L5 (upd L5 u5 (tup3 (-a) (-b) (k - c))) := Same.new _ (Same.refl _) g5
    obtain ⟨L6, hL6⟩ : ∃ L, L = upd L5 u5 (tup3 (-a) (-b) (k - c)) := ⟨_, rfl⟩
    rw [← hL6] at v5 y5
    refine change (H' := L6) hL6.symm ?_
    refine ⟨_, rfl, _, rfl, _, _, rfl, rfl, bd_c ba bk, _, rfl, _, rfl, _, _, rfl, rfl, bd_c bb bk, _, rfl, _, rfl, _, _, rfl, rfl, bd_c bc bk, sz3, fun u6 g6 => ?_⟩
    have v6 : (upd L6 u6 (tup3 (a * k) (b * k) (c * k))) u6 = some (tup3 (a * k) (b * k) (c * k)) := upd_same
    have y6 : Same L6 (upd L6 u6 (tup3 (a * k) (b * k) (c * k))) := Same.new _ (Same.refl _) g6
    obtain ⟨L7, hL7⟩ : ∃ L, L = upd L6 u6 (tup3 (a * k) (b * k) (c * k)) := ⟨_, rfl⟩
    rw [← hL7] at v6 y6
    refine change (H' := L7) hL7.symm ?_
    refine ⟨_, rfl, _, rfl, _, _, rfl, rfl, bd_c ba bk, _, rfl, _, rfl, _, _, rfl, rfl, bd_c bb bk, _, rfl, _, rfl, _, _, rfl, rfl, bd_c bc bk, sz3, fun u7 g7 => ?_⟩
    have v7 : (upd L7 u7 (tup3 (a * k) (b * k) (c * k))) u7 = some (tup3 (a * k) (b * k) (c * k)) := upd_same
    have y7 : Same L7 (upd L7 u7 (tup3 (a * k) (b * k) (c * k))) := Same.new _ (Same.refl _) g7
    obtain ⟨L8, hL8⟩ : ∃ L, L = upd L7 u7 (tup3 (a * k) (b * k) (c * k)) := ⟨_, rfl⟩
    rw [← hL8] at v7 y7
    refine change (H' := L8) hL8.symm ?_
    refine ⟨_, rfl, _, rfl, _, rfl, _, rfl, _, rfl, _, rfl, sz3, fun u8 g8 => ?_⟩
    have v8 : (upd L8 u8 (tup3 (-a) (-b) (-c))) u8 = some (tup3 (-a) (-b) (-c)) := upd_same
    have y8 : Same L8 (upd L8 u8 (tup3 (-a) (-b) (-c))) := Same.new _ (Same.refl _) g8
    obtain ⟨L9, hL9⟩ : ∃ L, L = upd L8 u8 (tup3 (-a) (-b) (-c)) := ⟨_, rfl⟩
    rw [← hL9] at v8 y8
    refine change (H' := L9) hL9.symm ?_
    refine ⟨_, rfl, _, rfl, _, rfl, sz3, fun u9 g9 => ?_⟩
    have v9 : (upd L9 u9 (tup3 (a) (b) (c))) u9 = some (tup3 (a) (b) (c)) := upd_same
    have y9 : Same L9 (upd L9 u9 (tup3 (a) (b) (c))) := Same.new _ (Same.refl _) g9
    obtain ⟨L10, hL10⟩ : ∃ L, L = upd L9 u9 (tup3 (a) (b) (c)) := ⟨_, rfl⟩
    rw [← hL10] at v9 y9
    refine change (H' := L10) hL10.symm ?_
    refine ⟨sz10, fun ld hld => ?_⟩
    have v10 : (upd L10 ld (.lst [.ref u0, .ref u1, .ref u2, .ref u3, .ref u4, .ref u5, .ref u6, .ref u7, .ref u8, .ref u9])) ld = some (.lst [.ref u0, .ref u1, .ref u2, .ref u3, .ref u4, .ref u5, .ref u6, .ref u7, .ref u8, .ref u9]) := upd_same
    have y10 : Same L10 (upd L10 ld (.lst [.ref u0, .ref u1, .ref u2, .ref u3, .ref u4, .ref u5, .ref u6, .ref u7, .ref u8, .ref u9])) := Same.new _ (Same.refl _) hld
    obtain ⟨L11, hL11⟩ : ∃ L, L = upd L10 ld (.lst [.ref u0, .ref u1, .ref u2, .ref u3, .ref u4, .ref u5, .ref u6, .ref u7, .ref u8, .ref u9]) := ⟨_, rfl⟩
    rw [← hL11] at v10 y10
    refine change (H' := L11) hL11.symm ?_
    refine normG (σ' := [some (.ref p), some (.int a), some (.int b), some (.int c), some (.int x), some (.int y), some (.int z), some (.ref r1), some (.ref r2), some (.int k), some (.int i), some (.int n), some (.ref lf), some (.ref ld), none, none, none, none, none, none]) rfl ?_
    have S9 : Same L9 L11 := y9.trans y10
    have S8 : Same L8 L11 := y8.trans S9
    have S7 : Same L7 L11 := y7.trans S8
    have S6 : Same L6 L11 := y6.trans S7
    have S5 : Same L5 L11 := y5.trans S6
    have S4 : Same L4 L11 := y4.trans S5
    have S3 : Same L3 L11 := y3.trans S4
    have S2 : Same L2 L11 := y2.trans S3
    have S1 : Same L1 L11 := y1.trans S2
    have S0 : Same L0 L11 := y0.trans S1
    replace v0 := S1 _ _ v0
    replace v1 := S2 _ _ v1
    replace v2 := S3 _ _ v2
    replace v3 := S4 _ _ v3
    replace v4 := S5 _ _ v4
    replace v5 := S6 _ _ v5
    replace v6 := S7 _ _ v6
    replace v7 := S8 _ _ v7
    replace v8 := S9 _ _ v8
    replace v9 := y10 _ _ v9
    replace e0 : StrAt K L11 f0 (a + x) (b + y) (c + z) := by
      have q := e0.same S0
      simpa only [Int.add_zero, Int.sub_zero, Int.zero_add, Int.zero_sub] using q
    replace e1 : StrAt K L11 f1 (a - x) (b - y) (c - z) := by
      have q := e1.same S0
      simpa only [Int.add_zero, Int.sub_zero, Int.zero_add, Int.zero_sub] using q
    replace e2 : StrAt K L11 f2 (a) (b) (c + k) := by
      have q := e2.same S0
      simpa only [Int.add_zero, Int.sub_zero, Int.zero_add, Int.zero_sub] using q
    replace e3 : StrAt K L11 f3 (a) (b) (k + c) := by
      have q := e3.same S0
      simpa only [Int.add_zero, Int.sub_zero, Int.zero_add, Int.zero_sub] using q
    replace e4 : StrAt K L11 f4 (a) (b) (c - k) := by
      have q := e4.same S0
      simpa only [Int.add_zero, Int.sub_zero, Int.zero_add, Int.zero_sub] using q
    replace e5 : StrAt K L11 f5 (-a) (-b) (k - c) := by
      have q := e5.same S0
      simpa only [Int.add_zero, Int.sub_zero, Int.zero_add, Int.zero_sub] using q
    replace e6 : StrAt K L11 f6 (a * k) (b * k) (c * k) := by
      have q := e6.same S0
      simpa only [Int.add_zero, Int.sub_zero, Int.zero_add, Int.zero_sub] using q
    replace e7 : StrAt K L11 f7 (a * k) (b * k) (c * k) := by
      have q := e7.same S0
      simpa only [Int.add_zero, Int.sub_zero, Int.zero_add, Int.zero_sub] using q
    replace e8 : StrAt K L11 f8 (-a) (-b) (-c) := by
      have q := e8.same S0
      simpa only [Int.add_zero, Int.sub_zero, Int.zero_add, Int.zero_sub] using q
    replace e9 : StrAt K L11 f9 (a) (b) (c) := by
      have q := e9.same S0
      simpa only [Int.add_zero, Int.sub_zero, Int.zero_add, Int.zero_sub] using q
    have hLf2 := S0 _ _ hLf
    replace one := one.same S0
    replace oth := oth.same S0
    have hP11 : Pen L11 p (t + 80) := (hP7.same (sG.trans S0)).mono (by omega)
    have kC : Keep p H L11 := kB.trans (Keep.of (sG.trans S0))
    clear y0 g0 y1 g1 y2 g2 y3 g3 y4 g4 y5 g5 y6 g6 y7 g7 y8 g8 y9 g9 y10 hld S9 S1 S2 S3 S4 S5 S6 S7 S8
    have all : ∀ (i : Nat) (xx yy : V), ([.ref f0, .ref f1, .ref f2, .ref f3, .ref f4, .ref f5, .ref f6, .ref f7, .ref f8, .ref f9] : List V)[i]? = some xx → ([.ref u0, .ref u1, .ref u2, .ref u3, .ref u4, .ref u5, .ref u6, .ref u7, .ref u8, .ref u9] : List V)[i]? = some yy → ∃ r u a b c, xx = .ref r ∧ yy = .ref u ∧ StrAt K L11 r a b c ∧ L11 u = some (tup3 a b c) ∧ Bd 400 a ∧ Bd 400 b := by
      intro i xx yy g1 g2
      match i, g1, g2 with
      | 0, g1, g2 => exact all_of (Option.some.inj g1).symm (Option.some.inj g2).symm e0 v0 ((ba.add bx).mono (by decide)) ((bb.add by_).mono (by decide))
      | 1, g1, g2 => exact all_of (Option.some.inj g1).symm (Option.some.inj g2).symm e1 v1 ((ba.sub bx).mono (by decide)) ((bb.sub by_).mono (by decide))
      | 2, g1, g2 => exact all_of (Option.some.inj g1).symm (Option.some.inj g2).symm e2 v2 (ba.mono (by decide)) (bb.mono (by decide))
      | 3, g1, g2 => exact all_of (Option.some.inj g1).symm (Option.some.inj g2).symm e3 v3 (ba.mono (by decide)) (bb.mono (by decide))
      | 4, g1, g2 => exact all_of (Option.some.inj g1).symm (Option.some.inj g2).symm e4 v4 (ba.mono (by decide)) (bb.mono (by decide))
      | 5, g1, g2 => exact all_of (Option.some.inj g1).symm (Option.some.inj g2).symm e5 v5 (ba.neg.mono (by decide)) (bb.neg.mono (by decide))
      | 6, g1, g2 => exact all_of (Option.some.inj g1).symm (Option.some.inj g2).symm e6 v6 ((ba.mul bk).mono (by decide)) ((bb.mul bk).mono (by decide))
      | 7, g1, g2 => exact all_of (Option.some.inj g1).symm (Option.some.inj g2).symm e7 v7 ((ba.mul bk).mono (by decide)) ((bb.mul bk).mono (by decide))
      | 8, g1, g2 => exact all_of (Option.some.inj g1).symm (Option.some.inj g2).symm e8 v8 (ba.neg.mono (by decide)) (bb.neg.mono (by decide))
      | 9, g1, g2 => exact all_of (Option.some.inj g1).symm (Option.some.inj g2).symm e9 v9 (ba.mono (by decide)) (bb.mono (by decide))
      | m + 10, g1, _ => cases g1
    clear e0 v0 e1 v1 e2 v2 e3 v3 e4 v4 e5 v5 e6 v6 e7 v7 e8 v8 e9 v9
    refine ⟨_, rfl, _, rfl, lf, ld, [.ref f0, .ref f1, .ref f2, .ref f3, .ref f4, .ref f5, .ref f6, .ref f7, .ref f8, .ref f9], [.ref u0, .ref u1, .ref u2, .ref u3, .ref u4, .ref u5, .ref u6, .ref u7, .ref u8, .ref u9], rfl, SqL.of hLf2, SqL.of v10, RZ.for_zipL (xs := [.ref f0, .ref f1, .ref f2, .ref f3, .ref f4, .ref f5, .ref f6, .ref f7, .ref f8, .ref f9]) (ys := [.ref u0, .ref u1, .ref u2, .ref u3, .ref u4, .ref u5, .ref u6, .ref u7, .ref u8, .ref u9]) rfl (fun _ σ H' => ∃ v14 v15, σ = [some (.ref p), some (.int a), some (.int b), some (.int c), some (.int x), some (.int y), some (.int z), some (.ref r1), some (.ref r2), some (.int k), some (.int i), some (.int n), some (.ref lf), some (.ref ld), v14, v15, none, none, none, none] ∧ Same L11 H') ⟨none, none, rfl, Same.refl _⟩ (fun i σ H' ⟨_, _, _, s⟩ => ⟨SqL.of (s _ _ hLf2), SqL.of (s _ _ v10)⟩) ?_ ?_⟩
    · rintro m xx yy T' σ H' hx hy ⟨v14, v15, rfl, s⟩ hT
      obtain ⟨r, u, a2, b2, c2, rfl, rfl, hr2, hu2, ba2, bb2⟩ := all m xx yy hx hy
      have s2 := Same.new (.tup [.ref r, .ref u]) s hT
      refine ⟨T', _, rfl, SqT.of upd_same, rfl, _, _, rfl, _, _, rfl, rfl, ?_⟩
      refine ⟨_, rfl, _, rfl, _, rfl, _, rfl, r, u, a2, b2, c2, i, n, rfl, hr2.same s2, s2 _ _ hu2, ba2, bb2, bi, bn, fun H2 s3 => ?_⟩
      refine ⟨_, rfl, if_no rfl ?_⟩
      exact ⟨_, _, rfl, s2.trans s3⟩
    rintro σ H' ⟨v14, v15, rfl, s⟩
    have hP12 := hP11.same s
    replace one := one.same s
    replace oth := oth.same s
    have kD := kC.trans (Keep.of s)
    clear all hLf2 v10 hP11 kC S0
    refine ⟨_, rfl, p, 4, t + 80, rfl, by decide, by decide, by omega, hP12, fun H8 w w0 w4 hP13 k8 => ?_⟩
    refine normG (σ' := [some (.ref p), some (.int a), some (.int b), some (.int c), some (.int x), some (.int y), some (.int z), some (.ref r1), some (.ref r2), some (.int k), some (.int i), some (.int n), some (.ref lf), some (.ref ld), v14, v15, some (.int w), none, none, none]) rfl ?_
    replace one := one.keep hP12 k8
    replace oth := oth.keep hP12 k8
    have kE := kD.trans k8
    clear hP12 kD k8 s
    refine ⟨_, rfl, _, rfl, rfl, _, rfl, ifI ⟨_, _, rfl, rfl, ?_⟩⟩
    refine ⟨_, rfl, _, rfl, rfl, _, rfl, ifI ⟨_, _, rfl, rfl, ?_⟩⟩
    refine ⟨_, rfl, _, rfl, rfl, _, rfl, ifI ⟨_, _, rfl, rfl, ?_⟩⟩
    refine ⟨_, _, _, rfl, fun rn H9 s9 _ hn => ?_⟩
    refine normG (σ' := [some (.ref p), some (.int a), some (.int b), some (.int c), some (.int x), some (.int y), some (.int z), some (.ref r1), some (.ref r2), some (.int k), some (.int i), some (.int n), some (.ref lf), some (.ref ld), v14, v15, some (.int w), some (.ref rn), none, none]) rfl ?_
    replace one := one.same s9
    replace oth := oth.same s9
    have hP14 := hP13.same s9
    have kF := kE.trans (Keep.of s9)
    obtain ⟨d1, q1⟩ := id one
    obtain ⟨dn, qn⟩ := id hn
    refine ⟨_, rfl, _, rfl, rn, dn, _, _, rfl, qn, T.ty one, O.nS, rn, _, _, _, _, rfl, hn, .inl ⟨r1, _, _, _, rfl, one, ?_⟩⟩
    rw [near_eq w0 w4]
    refine ⟨_, rfl, rfl, rfl, _, rfl, if_no (not_dec rfl) ?_⟩
    refine ⟨_, rfl, _, rfl, r1, d1, _, _, rfl, q1, T.ty oth, O.nS, r1, _, _, _, _, rfl, one, .inl ⟨r2, _, _, _, rfl, oth, ?_⟩⟩
    refine ⟨_, rfl, _, rfl, _, rfl, sz3, fun t5 h5 => ⟨_, rfl, _, rfl, _, rfl, sz3, fun t6 h6 => ?_⟩⟩
    refine ⟨_, _, dp3 (at_upd _ (upd_same (H := H9) (a := t5) (o := tup3 a b c)) h6), dp3 upd_same, tup3_shaped _ _ _, tup3_shaped _ _ _, ?_⟩
    rw [eqv3]
    refine ⟨rfl, _, rfl, if_no (not_dec rfl) ?_⟩
    have s10 := Same.new (tup3 x y z) (Same.new (tup3 a b c) (Same.refl H9) h5) h6
    replace one := one.same s10
    replace oth := oth.same s10
    have hP15 := hP14.same s10
    have kG := kF.trans (Keep.of s10)
    clear q1 qn hn hP13 kE hP14 kF s9 dn d1
    -- what is equal to no sum
    refine ⟨_, rfl, 0, 0, k, rfl, fun r7 H11 s11 _ h7 => ?_⟩
    obtain ⟨d7, q7⟩ := id h7
    refine ⟨_, rfl, r7, d7, _, _, rfl, q7, .int _, O.ni, r7, _, _, _, _, rfl, h7, .inr ⟨_, .int _, T.kiS, ?_⟩⟩
    refine ⟨_, rfl, if_no rfl ?_⟩
    replace one := one.same s11
    replace oth := oth.same s11
    refine ⟨_, rfl, _, rfl, _, rfl, _, rfl, sz3, fun t8 h8 => ?_⟩
    have s12 := Same.new (tup3 a b c) (Same.refl H11) h8
    replace one := one.same s12
    replace oth := oth.same s12
    obtain ⟨d1, q1⟩ := id one
    have ht8 : (upd H11 t8 (tup3 a b c)) t8 = some (tup3 a b c) := upd_same
    refine ⟨r1, d1, _, _, rfl, q1, .tup ht8, O.nu, r1, _, _, _, _, rfl, one, .inr ⟨_, .tup ht8, O.ku, ?_⟩⟩
    refine ⟨_, rfl, if_no rfl ?_⟩
    refine ⟨_, rfl, r1, d1, _, _, rfl, q1, .str _, O.nt, r1, _, _, _, _, rfl, one, .inr ⟨_, .str _, O.kt, ?_⟩⟩
    refine ⟨_, rfl, if_no rfl ?_⟩
    refine ⟨_, rfl, 0, 0, k, rfl, fun r9 H13 s13 _ h9 => ?_⟩
    obtain ⟨d9, q9⟩ := id h9
    refine ⟨_, rfl, r9, d9, _, _, rfl, q9, .int _, O.ni, r9, _, _, _, _, rfl, h9, .inr ⟨_, .int _, T.kiS, false, rfl, ?_⟩⟩
    refine ⟨_, rfl, if_no rfl ?_⟩
    replace one := one.same s13
    replace oth := oth.same s13
    have s14 := s11.trans (s12.trans s13)
    have hP16 := hP15.same s14
    have kH := kG.trans (Keep.of s14)
    clear h7 h9 q7 q9 q1 d1 s11 s12 s13 s14 hP15 kG ht8 h8 s10
    -- another counter
    refine ⟨_, rfl, p, 7, t + 81, rfl, by decide, by decide, by omega, hP16, fun H17 f f0 f1 hP17 k17 => ⟨_, _, rfl, rfl, ?_⟩⟩
    refine ⟨_, rfl, _, rfl, p, _, 99, t + 82, rfl, by decide, by decide, by omega, hP17, fun H18 s g0 g1 hP18 k18 => ⟨_, _, rfl, ?_⟩⟩
    replace one := (one.keep hP16 k17).keep hP17 k18
    replace oth := (oth.keep hP16 k17).keep hP17 k18
    have kI := kH.trans (k17.trans k18)
    have bf : Bd 4 (f - 2) := bd_small 8 (by omega) (by omega)
    have bs : Bd 7 s := bd_small 99 (by omega) (by omega)
    obtain ⟨d1, q1⟩ := id one
    refine norm (σ' := [some (.ref p), some (.int a), some (.int b), some (.int c), some (.int x), some (.int y), some (.int z), some (.ref r1), some (.ref r2), some (.int k), some (.int i), some (.int n), some (.ref lf), some (.ref ld), v14, v15, some (.int w), some (.ref rn), some (.int (f - 2)), some (.int s)]) rfl ?_
    refine ⟨_, rfl, r1, d1, _, rfl, q1, sf_no _ _ _ (by decide +kernel) (by decide +kernel) (by decide +kernel), _, rfl, _, rfl, r1, a, b, c, f - 2, s, rfl, one, ba.mono (by decide), bf.mono (by decide), bs.mono (by decide), fun ro H19 s19 _ ho => ?_⟩
    refine ⟨_, rfl, _, rfl, _, _, rfl, rfl, bd_c ba bf, _, rfl, _, rfl, _, rfl, _, _, rfl, rfl, bd_c ba bs, _, rfl, _, _, rfl, rfl, sz3, fun to hto => ?_⟩
    have s20 := Same.new (tup3 (a * (f - 2)) b (a * s + c)) (Same.refl H19) hto
    rw [Int.add_comm c (a * s)] at ho
    refine ⟨_, rfl, _, rfl, ro, to, _, _, _, i, n, rfl, ho.same s20, upd_same, (ba.mul bf).mono (by decide), bb.mono (by decide), bi, bn, fun H21 s21 => ?_⟩
    refine ⟨_, rfl, if_no rfl ?_⟩
    have s22 := s19.trans (s20.trans s21)
    replace one := one.same s22
    replace oth := oth.same s22
    obtain ⟨d1, q1⟩ := id one
    obtain ⟨d2, q2⟩ := id oth
    refine ⟨_, rfl, r1, _, d1, _, _, rfl, q1, T.clS, T.nI, sf_i _ _ _, _, rfl, r1, _, d1, _, _, rfl, q1, T.clS, T.nN, sf_n _ _ _, _, rfl, r1, _, d1, _, _, rfl, q1, T.clS, T.nO, sf_one _ _ _, ?_⟩
    refine ⟨_, rfl, r2, _, d2, _, _, rfl, q2, T.clS, T.nI, sf_i _ _ _, _, rfl, r2, _, d2, _, _, rfl, q2, T.clS, T.nN, sf_n _ _ _, _, rfl, r2, _, d2, _, _, rfl, q2, T.clS, T.nO, sf_one _ _ _, sz6, fun t7 h7 => ?_⟩
    refine ⟨_, rfl, _, rfl, _, rfl, _, rfl, _, rfl, _, rfl, sz6, fun t8 h8 => ?_⟩
    refine ⟨_, _, dp6 (at_upd _ upd_same h8), dp6 upd_same, tup6_shaped _ _ _ _ _ _, tup6_shaped _ _ _ _ _ _, ?_⟩
    rw [SeqAt.eqv_refl _ (SeqAt.canLay_of_shaped (tup6_shaped _ _ _ _ _ _))]
    have s23 := s22.trans (Same.new (.tup [.int a, .int b, .int c, .int x, .int y, .int z]) (Same.new (.tup [.int a, .int b, .int c, .int x, .int y, .int z]) (Same.refl H21) h7) h8)
    exact kk _ ((hP18.same s23).mono (by omega)) (kI.trans (Keep.of s23))
end
end K21

set_option maxHeartbeats 4000000
namespace K21
open PySem PySem.Spec PyProof.Rows L2 Z
theorem pe_or {X : Cx} {e : Expr} {t1 t2 : TE} (h1 : PE X e t1) (h2 : PE X e t2) : PE X e (fun σ H Q => t1 σ H Q ∨ t2 σ H Q) := ⟨fun pins s σ H Q I h => h.elim (h1.run pins s σ H Q I) (h2.run pins s σ H Q I)⟩
theorem if_v {b : Bool} {A : Prop} {j : Int} {σ : L2.St} {H : Hp} {Q : VK} (h1 : (∀ v : Int, Q (.int v) H) → A) (h2 : ∀ v : Int, Q (.int v) H) : if b = true then A else tC (.int j) σ H Q := by
  cases b
  · exact h2 j
  · exact h1 h2
theorem if_join {b : Bool} {A : Prop} {N : L2.St → Hp → Prop} {σ : L2.St} {H : Hp} (W : L2.St → Hp → Prop) (h1 : (∀ σ' H', W σ' H' → N σ' H') → A) (h2 : W σ H) (h3 : ∀ σ' H', W σ' H' → N σ' H') : if b = true then A else N σ H := by
  cases b
  · exact h3 _ _ h2
  · exact h1 h3
theorem mid {S1 S2 : TS} {D : Ends} {σ : L2.St} {H : Hp} (W2 : L2.St → Hp → Prop) (h1 : (∀ σ' H', W2 σ' H' → S2 D σ' H') → tSeq S1 S2 D σ H) (h2 : ∀ σ' H', W2 σ' H' → S2 D σ' H') : tSeq S1 S2 D σ H := h1 h2
theorem un_next {D : Ends} {σ : L2.St} {H : Hp} (h : D.nx σ H) : tNext D σ H := h
theorem lf_bd {a b : Int} {M : Int} (hM : 0 ≤ M) (h1 : -M ≤ a) (h2 : a ≤ M) : -M ≤ a.fdiv (g2 a b) ∧ a.fdiv (g2 a b) ≤ M := by
  by_cases h : g2 a b = 0
  · obtain ⟨rfl, rfl⟩ := g2_zero h
    rw [Int.zero_fdiv]
    omega
  · exact fdiv_bd (by omega) hM h1 h2
theorem lf_bd2 {a b : Int} {M : Int} (hM : 0 ≤ M) (h1 : -M ≤ b) (h2 : b ≤ M) : -M ≤ b.fdiv (g2 a b) ∧ b.fdiv (g2 a b) ≤ M := by
  by_cases h : g2 a b = 0
  · obtain ⟨rfl, rfl⟩ := g2_zero h
    rw [Int.zero_fdiv]
    omega
  · exact fdiv_bd (by omega) hM h1 h2
def tup5 (a b c d e : Int) : HO := .tup [.int a, .int b, .int c, .int d, .int e]
theorem dp5 {K : PySem.W.Frag} {H : Hp} {t : Addr} {a b c d e : Int} (h : H t = some (tup5 a b c d e)) : Dp K H (.ref t) (.tuple [.int a, .int b, .int c, .int d, .int e]) := .tup (SqT.of h) (.cons (.int _) (.cons (.int _) (.cons (.int _) (.cons (.int _) (.cons (.int _) .nil)))))
theorem tup5_shaped (a b c x y : Int) : SeqAt.shaped (.tuple [.int a, .int b, .int c, .int x, .int y]) = true := by simp [SeqAt.shaped, PyData.canLay0, PyData.canLayAll0, PyData.depth, PyData.depthAll]
/-- a condition stands at p; h tells where it holds -/
def CndAt (K : PySem.W.Frag) (H : Hp) (p : Addr) (h : Int → Int → Bool) : Prop :=
  (∃ a b c, AtlAt K H p a b c ∧ (-100 ≤ a ∧ a ≤ 100) ∧ (-100 ≤ b ∧ b ≤ 100) ∧ ∀ i n, h i n = decide (0 ≤ a * i + b * n + c)) ∨
  ∃ a b m r, RstAt K H p a b m r ∧ (-100 ≤ a ∧ a ≤ 100) ∧ (-100 ≤ b ∧ b ≤ 100) ∧ 2 ≤ m ∧ m ≤ 4 ∧ 0 ≤ r ∧ r ≤ m - 1 ∧ ∀ i n, h i n = decide ((a * i + b * n + 0).fmod m = r)
/-- both of one kind -/
def TwoAt (K : PySem.W.Frag) (H : Hp) (p q : Addr) (h g : Int → Int → Bool) : Prop :=
  (∃ a b c x y z, AtlAt K H p a b c ∧ AtlAt K H q x y z ∧ Bd 400 a ∧ Bd 400 b ∧ Bd 400 x ∧ Bd 400 y ∧ (∀ i n, h i n = decide (0 ≤ a * i + b * n + c)) ∧ ∀ i n, g i n = decide (0 ≤ x * i + y * n + z)) ∨
  ∃ a b m r x y m' r', RstAt K H p a b m r ∧ RstAt K H q x y m' r' ∧ Bd 400 a ∧ Bd 400 b ∧ Bd 400 x ∧ Bd 400 y ∧ m ≠ 0 ∧ m' ≠ 0 ∧ (∀ i n, h i n = decide ((a * i + b * n + 0).fmod m = r)) ∧ ∀ i n, g i n = decide ((x * i + y * n + 0).fmod m' = r')
section
variable {K : PySem.W.Frag} {H H' : Hp} {p q g : Addr} {h h' : Int → Int → Bool} {t : Nat} {a b c m r : Int}
theorem CndAt.same (c : CndAt K H p h) (s : Same H H') : CndAt K H' p h := by
  rcases c with ⟨a, b, c, h1, h2⟩ | ⟨a, b, m, r, h1, h2⟩
  · exact .inl ⟨a, b, c, h1.same s, h2⟩
  · exact .inr ⟨a, b, m, r, h1.same s, h2⟩
theorem CndAt.keep (c : CndAt K H p h) (hp : Pen H q t) (k : Keep q H H') : CndAt K H' p h := by
  rcases c with ⟨a, b, c, h1, h2⟩ | ⟨a, b, m, r, h1, h2⟩
  · exact .inl ⟨a, b, c, h1.keep hp k, h2⟩
  · exact .inr ⟨a, b, m, r, h1.keep hp k, h2⟩
theorem TwoAt.same (c : TwoAt K H p q h h') (s : Same H H') : TwoAt K H' p q h h' := by
  rcases c with ⟨a, b, c, x, y, z, h1, h2, h3⟩ | ⟨a, b, m, r, x, y, m', r', h1, h2, h3⟩
  · exact .inl ⟨a, b, c, x, y, z, h1.same s, h2.same s, h3⟩
  · exact .inr ⟨a, b, m, r, x, y, m', r', h1.same s, h2.same s, h3⟩
theorem LeastG.same (h : LeastG H g a b c) (s : Same H H') : LeastG H' g a b c := by
  obtain ⟨t, h1, h2⟩ := h
  exact ⟨t, s _ _ h1, s _ _ h2⟩
theorem RestG.same (h : RestG H g a b c m r) (s : Same H H') : RestG H' g a b c m r := by
  obtain ⟨t, h1, h2⟩ := h
  exact ⟨t, s _ _ h1, s _ _ h2⟩
theorem LeastG.keep (h : LeastG H g a b c) (hp : Pen H q t) (k : Keep q H H') : LeastG H' g a b c := by
  obtain ⟨t, h1, h2⟩ := h
  exact ⟨t, k _ _ (hp.ne h1 fun _ z => by cases z) h1, k _ _ (hp.ne h2 fun _ z => by cases z) h2⟩
theorem RestG.keep (h : RestG H g a b c m r) (hp : Pen H q t) (k : Keep q H H') : RestG H' g a b c m r := by
  obtain ⟨t, h1, h2⟩ := h
  exact ⟨t, k _ _ (hp.ne h1 fun _ z => by cases z) h1, k _ _ (hp.ne h2 fun _ z => by cases z) h2⟩
theorem GrdAt.same (h1 : GrdAt H g h) (s : Same H H') : GrdAt H' g h := by
  rcases h1 with ⟨a, b, c, h1, h2⟩ | ⟨a, b, c, m, r, h1, h2⟩
  · exact .inl ⟨a, b, c, h1.same s, h2⟩
  · exact .inr ⟨a, b, c, m, r, h1.same s, h2⟩
theorem GrdAt.keep (h1 : GrdAt H g h) (hp : Pen H q t) (k : Keep q H H') : GrdAt H' g h := by
  rcases h1 with ⟨a, b, c, h1, h2⟩ | ⟨a, b, c, m, r, h1, h2⟩
  · exact .inl ⟨a, b, c, h1.keep hp k, h2⟩
  · exact .inr ⟨a, b, c, m, r, h1.keep hp k, h2⟩
end
/-- the methods of conditions -/
structure CM (P : Program) (w : World) (K : PySem.W.Frag) (mg : Str → Option Value) (base : Heap) : Prop where
  ah : ∃ fd, FnOk P w K mg base CX0 2 (He.ma K (CA K) "holds") fd ["self", "i", "n"] (spAHolds K) ∧ Binds K fd ["self", "i", "n"] [] ∧ Meth K (CA K) "holds" (He.ma K (CA K) "holds")
  ar : ∃ fd, FnOk P w K mg base CX0 6 (He.ma K (CA K) "replaced") fd ["self", "factor", "shift"] (spARepl K) ∧ Binds K fd ["self", "factor", "shift"] [] ∧ Meth K (CA K) "replaced" (He.ma K (CA K) "replaced")
  rh : ∃ fd, FnOk P w K mg base CX0 2 (He.ma K (CR K) "holds") fd ["self", "i", "n"] (spRHolds K) ∧ Binds K fd ["self", "i", "n"] [] ∧ Meth K (CR K) "holds" (He.ma K (CR K) "holds")
  rr : ∃ fd, FnOk P w K mg base CX0 6 (He.ma K (CR K) "replaced") fd ["self", "factor", "shift"] (spRRepl K) ∧ Binds K fd ["self", "factor", "shift"] [] ∧ Meth K (CR K) "replaced" (He.ma K (CR K) "replaced")
theorem ah_no (q : Addr) : (af q).lookup ("holds" : Str) = none := af_no q (by decide +kernel)
theorem ar_no (q : Addr) : (af q).lookup ("replaced" : Str) = none := af_no q (by decide +kernel)
theorem rh_no (q : Addr) (m r : Int) : (rf q m r).lookup ("holds" : Str) = none := rf_no q m r (by decide +kernel) (by decide +kernel) (by decide +kernel)
theorem rr_no (q : Addr) (m r : Int) : (rf q m r).lookup ("replaced" : Str) = none := rf_no q m r (by decide +kernel) (by decide +kernel) (by decide +kernel)
section
variable {P : Program} {w : World} {K : PySem.W.Frag} {mg : Str → Option Value} {base : Heap}
theorem sc_law_guard_right : FnScope ["_law_pen_here", "_law_i", "_law_n", "_law_a", "_law_b", "_law_c", "_law_whole", "_law_m", "_law_guard", "_law_made", "_law_row", "_law_k", "_law_r", "_law_alone", "_law_left", "_law_f", "_law_s", "_law_moved", "_law_point", "_law_told", "_law_later"] ["_law_pen_here"] (defScope s_law_guard_right) := ⟨rfl, rfl, rfl, by decide +kernel, rfl, by decide +kernel, by decide +kernel⟩
theorem ok_guardR {f : Addr} {fd : FuncData} (F : FnP K "_law_guard_right" s_law_guard_right f fd) (T : LwTx K mg) (M : MkS P w K mg base) (MA : MkA P w K mg base) (MR : MkR P w K mg base) (C : CM P w K mg base)
    (kbb : PySem.W.kitOne K (.type "bool") (.type "bool") = some true)
    (dDraw : Dn P w K mg base 1 "_law_draw" ["_law_pen_here", "_law_many"] spDraw) (dBetween : Dn P w K mg base 2 "_law_between" ["_law_pen_here", "_law_least", "_law_most"] spBetween) (dFar : Dn P w K mg base 3 "_law_far" ["_law_pen_here"] spFar)
    (dDue : Dn P w K mg base 2 "_law_guard_due" ["_law_guard"] spDueG) (dGuard : Dn P w K mg base 2 "_law_guard_holds" ["_law_guard", "_law_i", "_law_n"] spGuardH) : FnOk P w K mg base CX0 8 f fd ["_law_pen_here"] spPair := by
  refine F.ok sc_law_guard_right (fun vs H Q E h => ?_) (fun cdv A outer s H vs Q E hr h => ?_)
  · obtain ⟨p, t, rfl, _⟩ := h
    rfl
  · obtain ⟨p, t, rfl, ht, hP, kk⟩ := h
    obtain ⟨fdah, Fah, hbah, cah⟩ := C.ah
    obtain ⟨fdar, Far, hbar, car⟩ := C.ar
    obtain ⟨fdrh, Frh, hbrh, crh⟩ := C.rh
    obtain ⟨fdrr, Frr, hbrr, crr⟩ := C.rr
    refine ⟨_, PSs.nox (pss_cons (ps_par (i := 1) (j := 2) (by rfl) sc_law_guard_right.nd rfl rfl (by decide) rfl rfl (pa_cons (pe_dn dFar hr (pa_cons (pv 0) pa_nil)) (pa_cons (pe_dn dFar hr (pa_cons (pv 0) pa_nil)) pa_nil)) (by rfl))
      (pss_cons (ps_par (i := 3) (j := 4) (by rfl) sc_law_guard_right.nd rfl rfl (by decide) rfl rfl (pa_cons (pe_op op_sub (pe_dn dDraw hr (pa_cons (pv 0) (pa_cons pe_int pa_nil))) pe_int) (pa_cons (pe_op op_sub (pe_dn dDraw hr (pa_cons (pv 0) (pa_cons pe_int pa_nil))) pe_int) pa_nil)) (by rfl))
      (pss_cons (ps_set (i := 5) sc_law_guard_right.nd rfl (Or.inl rfl) (pe_op op_sub (pe_op op_sub (pe_dn dDraw hr (pa_cons (pv 0) (pa_cons pe_int pa_nil))) pe_int) (pe_ifExp (pt_cmpR op_gt (pe_dn dDraw hr (pa_cons (pv 0) (pa_cons pe_int pa_nil))) pe_int (nomark _)) (pe_op op_add (pe_op op_mulW (pv 3) (pv 1)) (pe_op op_mulW (pv 4) (pv 2))) pe_int)))
      (pss_cons (ps_par (i := 6) (j := 7) (by rfl) sc_law_guard_right.nd rfl rfl (by decide) rfl rfl (pa_cons (pe_S T.toStTx M hr (pa_cons (pv 3) (pa_cons (pv 4) (pa_cons (pv 5) pa_nil)))) (pa_cons (pe_op op_add pe_int (pe_dn dDraw hr (pa_cons (pv 0) (pa_cons pe_int pa_nil)))) pa_nil)) (by rfl))
      (pss_cons (ps_par (i := 8) (j := 9) (by rfl) sc_law_guard_right.nd rfl rfl (by decide) rfl rfl (pa_cons (pe_tup (pa_cons pe_str (pa_cons (pe_tup (pa_cons (pv 3) (pa_cons (pv 4) (pa_cons (pv 5) pa_nil)))) pa_nil))) (pa_cons (pe_A T.toCoTx MA hr (pa_cons (pv 6) pa_nil)) pa_nil)) (by rfl))
      (pss_cons (ps_set (i := 10) sc_law_guard_right.nd rfl (Or.inl rfl) (pe_tup (pa_cons (pe_fld (pe_fld (pv 9) rfl) rfl) (pa_cons (pe_fld (pe_fld (pv 9) rfl) rfl) (pa_cons (pe_fld (pe_fld (pv 9) rfl) rfl) pa_nil)))))
      (pss_cons (ps_if (pt_cmpR op_eq (pe_dn dDraw hr (pa_cons (pv 0) (pa_cons pe_int pa_nil))) pe_int (nomark _)) (pss_cons (ps_set (i := 8) sc_law_guard_right.nd rfl (Or.inl rfl) (pe_tup (pa_cons pe_str (pa_cons (pe_tup (pa_cons (pv 3) (pa_cons (pv 4) (pa_cons (pv 5) pa_nil)))) (pa_cons (pv 7) (pa_cons (pe_dn dDraw hr (pa_cons (pv 0) (pa_cons (pv 7) pa_nil))) pa_nil))))))
      (pss_cons (ps_set (i := 9) sc_law_guard_right.nd rfl (Or.inl rfl) (pe_R T.toCoTx MR hr at_E0 (pa_cons (pv 6) (pa_cons (pv 7) (pa_cons (pe_ix ix_tup (pv 8) pe_int (fun _ _ => rfl)) pa_nil)))))
      (pss_one (ps_set (i := 10) sc_law_guard_right.nd rfl (Or.inl rfl) (pe_tup (pa_cons (pe_fld (pe_fld (pv 9) rfl) rfl) (pa_cons (pe_fld (pe_fld (pv 9) rfl) rfl) (pa_cons (pe_fld (pe_fld (pv 9) rfl) rfl) (pa_cons (pe_fld (pv 9) rfl) (pa_cons (pe_fld (pv 9) rfl) pa_nil)))))))))) pss_nil)
      (pss_cons (ps_if (pt_cmpR (op_neD hr.units) (pv 10) (pe_dn dDue hr (pa_cons (pv 8) pa_nil)) (nomark _)) (pss_one (ps_ret pe_bl)) pss_nil)
      (pss_cons (ps_par (i := 11) (j := 12) (by rfl) sc_law_guard_right.nd rfl rfl (by decide) rfl rfl (pa_cons (pe_dn dBetween hr (pa_cons (pv 0) (pa_cons (pe_un un_neg pe_int) (pa_cons pe_int pa_nil)))) (pa_cons (pe_dn dDraw hr (pa_cons (pv 0) (pa_cons (pv 7) pa_nil))) pa_nil)) (by rfl))
      (pss_cons (ps_par (i := 13) (j := 14) (by rfl) sc_law_guard_right.nd rfl rfl (by decide) rfl rfl (pa_cons (pe_A T.toCoTx MA hr (pa_cons (pv 11) pa_nil)) (pa_cons (pe_R T.toCoTx MR hr at_E0 (pa_cons (pv 11) (pa_cons (pv 7) (pa_cons (pv 12) pa_nil)))) pa_nil)) (by rfl))
      (pss_cons (ps_if (pt_cmpR (op_neD hr.units) (pe_tup (pa_cons (pe_fld (pe_fld (pv 13) rfl) rfl) (pa_cons (pe_fld (pe_fld (pv 13) rfl) rfl) (pa_cons (pe_fld (pe_fld (pv 13) rfl) rfl) pa_nil)))) (pe_dn dDue hr (pa_cons (pe_tup (pa_cons pe_str (pa_cons (pe_tup (pa_cons pe_int (pa_cons pe_int (pa_cons (pv 11) pa_nil)))) pa_nil))) pa_nil)) (nomark _)) (pss_one (ps_ret pe_bl)) pss_nil)
      (pss_cons (ps_if (pt_cmpR (op_neD hr.units) (pe_tup (pa_cons (pe_fld (pe_fld (pv 14) rfl) rfl) (pa_cons (pe_fld (pv 14) rfl) (pa_cons (pe_fld (pv 14) rfl) pa_nil)))) (pe_slice sl_tup (pe_dn dDue hr (pa_cons (pe_tup (pa_cons pe_str (pa_cons (pe_tup (pa_cons pe_int (pa_cons pe_int (pa_cons (pv 11) pa_nil)))) (pa_cons (pv 7) (pa_cons (pv 12) pa_nil))))) pa_nil)) (po_some pe_int) po_none) (nomark _)) (pss_one (ps_ret pe_bl)) pss_nil)
      (pss_cons (ps_if (PW.pt (pw_or (pt_cmpR op_ne (pe_meth (pv 13) T.clA cah Fah (hr.mono (by decide)) hbah .nil pass0 (pa_cons (pv 1) (pa_cons (pv 2) pa_nil))) (pe_cmpR op_ge (pv 11) pe_int (nomark _)) (nomark _)) (pw_or1 (pt_cmpR op_ne (pe_meth (pv 14) T.clR crh Frh (hr.mono (by decide)) hbrh .nil pass0 (pa_cons (pv 1) (pa_cons (pv 2) pa_nil))) (pe_cmpR op_eq (pe_op op_modN (pe_callTy call_int1 (by rfl) T.int (by decide +kernel) (pa_cons (pv 11) pa_nil)) (pv 7)) (pv 12) (nomark _)) (nomark _))))) (pss_one (ps_ret pe_bl)) pss_nil)
      (pss_cons (ps_par (i := 15) (j := 16) (by rfl) sc_law_guard_right.nd rfl rfl (by decide) rfl rfl (pa_cons (pe_op op_sub (pe_dn dDraw hr (pa_cons (pv 0) (pa_cons pe_int pa_nil))) pe_int) (pa_cons (pe_op op_sub (pe_dn dDraw hr (pa_cons (pv 0) (pa_cons pe_int pa_nil))) pe_int) pa_nil)) (by rfl))
      (pss_cons (ps_set (i := 17) sc_law_guard_right.nd rfl (Or.inl rfl) (pe_or (pe_meth (pv 9) T.clA car Far (hr.mono (by decide)) hbar .nil pass0 (pa_cons (pv 15) (pa_cons (pv 16) pa_nil))) (pe_meth (pv 9) T.clR crr Frr (hr.mono (by decide)) hbrr .nil pass0 (pa_cons (pv 15) (pa_cons (pv 16) pa_nil)))))
      (pss_cons (ps_for PassesOwn.never rfl (pi_tup (pe_tup (pa_cons (pe_tup (pa_cons (pv 1) (pa_cons (pv 2) pa_nil))) (pa_cons (pe_tup (pa_cons (pe_op op_add (pv 1) pe_int) (pa_cons (pv 2) pa_nil))) (pa_cons (pe_tup (pa_cons (pv 1) (pa_cons (pe_op op_add (pv 2) pe_int) pa_nil))) (pa_cons (pe_tup (pa_cons (pe_op op_add (pv 1) pe_int) (pa_cons (pe_op op_add (pv 2) pe_int) pa_nil))) pa_nil)))))) (pg_name (i := 18) sc_law_guard_right.nd rfl (.inl rfl)) (pss_cons (ps_par (i := 19) (j := 20) (by rfl) sc_law_guard_right.nd rfl rfl (by decide) rfl rfl (pa_cons (pe_or (pe_meth (pv 9) T.clA cah Fah (hr.mono (by decide)) hbah .nil pass0 (pa_cons (pe_ix ix_tup (pv 18) pe_int (fun _ _ => rfl)) (pa_cons (pe_ix ix_tup (pv 18) pe_int (fun _ _ => rfl)) pa_nil))) (pe_meth (pv 9) T.clR crh Frh (hr.mono (by decide)) hbrh .nil pass0 (pa_cons (pe_ix ix_tup (pv 18) pe_int (fun _ _ => rfl)) (pa_cons (pe_ix ix_tup (pv 18) pe_int (fun _ _ => rfl)) pa_nil)))) (pa_cons (pe_or (pe_meth (pv 17) T.clA cah Fah (hr.mono (by decide)) hbah .nil pass0 (pa_cons (pe_ix ix_tup (pv 18) pe_int (fun _ _ => rfl)) (pa_cons (pe_ix ix_tup (pv 18) pe_int (fun _ _ => rfl)) pa_nil))) (pe_meth (pv 17) T.clR crh Frh (hr.mono (by decide)) hbrh .nil pass0 (pa_cons (pe_ix ix_tup (pv 18) pe_int (fun _ _ => rfl)) (pa_cons (pe_ix ix_tup (pv 18) pe_int (fun _ _ => rfl)) pa_nil)))) pa_nil)) (by rfl))
      (pss_cons (ps_if (PW.pt (pw_or (pt_not (pt_val (pe_callB call_isi (by rfl) T.isi (by decide +kernel) (pa_cons (pv 19) (pa_cons (pe_bltn (v := .ty "bool") (by rfl) T.bool (by decide +kernel) rfl) pa_nil))))) (pw_or1 (pt_cmpR op_ne (pv 19) (pe_dn dGuard hr (pa_cons (pv 8) (pa_cons (pe_ix ix_tup (pv 18) pe_int (fun _ _ => rfl)) (pa_cons (pe_ix ix_tup (pv 18) pe_int (fun _ _ => rfl)) pa_nil)))) (nomark _))))) (pss_one (ps_ret pe_bl)) pss_nil)
      (pss_one (ps_if (PW.pt (pw_or (pt_not (pt_val (pe_callB call_isi (by rfl) T.isi (by decide +kernel) (pa_cons (pv 20) (pa_cons (pe_bltn (v := .ty "bool") (by rfl) T.bool (by decide +kernel) rfl) pa_nil))))) (pw_or1 (pt_cmpR op_ne (pv 20) (pe_dn dGuard hr (pa_cons (pv 8) (pa_cons (pe_op op_add (pe_op op_mulW (pv 15) (pe_ix ix_tup (pv 18) pe_int (fun _ _ => rfl))) (pv 16)) (pa_cons (pe_ix ix_tup (pv 18) pe_int (fun _ _ => rfl)) pa_nil)))) (nomark _))))) (pss_one (ps_ret pe_bl)) pss_nil)))))
      (pss_one (ps_ret (pe_cmpR (op_eqD hr.units) (pe_tup (pa_cons (pe_fld (pv 6) rfl) (pa_cons (pe_fld (pv 6) rfl) (pa_cons (pe_fld (pv 6) rfl) pa_nil)))) (pe_tup (pa_cons (pv 3) (pa_cons (pv 4) (pa_cons (pv 5) pa_nil)))) (nomark _)))))))))))))))))))), ?_⟩
    refine ⟨_, rfl, p, t, rfl, by omega, hP, fun H1 i i0 i1 hP1 k1 => ⟨_, rfl, p, t + 8, rfl, by omega, hP1, fun H2 n n0 n1 hP2 k2 => ⟨_, _, rfl, ?_⟩⟩⟩
    refine ⟨_, rfl, p, 13, t + 16, rfl, by decide, by decide, by omega, hP2, fun H3 a' a0 a1 hP3 k3 => ⟨_, _, rfl, rfl, ?_⟩⟩
    refine ⟨_, rfl, p, 13, t + 17, rfl, by decide, by decide, by omega, hP3, fun H4 b' b0 b1 hP4 k4 => ⟨_, _, rfl, rfl, _, _, rfl, ?_⟩⟩
    refine norm (σ' := [some (.ref p), some (.int i), some (.int n), some (.int (a' - 6)), some (.int (b' - 6)), none, none, none, none, none, none, none, none, none, none, none, none, none, none, none, none]) rfl ?_
    obtain ⟨a, ha⟩ : ∃ a, a = a' - 6 := ⟨_, rfl⟩
    obtain ⟨b, hb⟩ : ∃ b, b = b' - 6 := ⟨_, rfl⟩
    rw [← ha, ← hb]
    have bi : Bd 300 i := (bd_far i0 i1).mono (by decide)
    have bn : Bd 300 n := (bd_far n0 n1).mono (by decide)
    have ba : Bd 4 a := bd_small 8 (by omega) (by omega)
    have bb : Bd 4 b := bd_small 8 (by omega) (by omega)
    have kA : Keep p H H4 := k1.trans (k2.trans (k3.trans k4))
    clear hP hP1 hP2 hP3 k1 k2 k3 k4
    refine ⟨_, rfl, p, 7, t + 18, rfl, by decide, by decide, by omega, hP4, fun H5 c' c0 c1 hP5 k5 => ⟨_, _, rfl, rfl, ?_⟩⟩
    refine ⟨_, rfl, p, 3, t + 19, rfl, by decide, by decide, by omega, hP5, fun H6 d d0 d1 hP6 k6 => ⟨_, _, rfl, rfl, _, rfl, ?_⟩⟩
    refine if_v (fun key => ⟨_, rfl, _, rfl, _, _, rfl, rfl, bd_c ba bi, _, rfl, _, rfl, _, _, rfl, rfl, bd_c bb bn, _, _, rfl, rfl, key _⟩) (fun v => ?_)
    refine ⟨_, _, rfl, rfl, ?_⟩
    obtain ⟨c, hc⟩ : ∃ c, c = c' - 3 - v := ⟨_, rfl⟩
    refine normG (σ' := [some (.ref p), some (.int i), some (.int n), some (.int a), some (.int b), some (.int (c' - 3 - v)), none, none, none, none, none, none, none, none, none, none, none, none, none, none, none]) rfl ?_
    rw [← hc]
    have kB : Keep p H H6 := kA.trans (k5.trans k6)
    clear hc hP4 hP5 k5 k6 kA c0 c1 d0 d1
    refine ⟨_, rfl, _, rfl, _, rfl, a, b, c, rfl, fun rw_ H7 s7 _ hw => ?_⟩
    have hP7 := hP6.same s7
    refine ⟨_, rfl, p, 3, t + 20, rfl, by decide, by decide, by omega, hP7, fun H8 m' m0' m1' hP8 k8 => ⟨_, _, rfl, rfl, _, _, rfl, ?_⟩⟩
    obtain ⟨m, hm⟩ : ∃ m, m = 2 + m' := ⟨_, rfl⟩
    refine norm (σ' := [some (.ref p), some (.int i), some (.int n), some (.int a), some (.int b), some (.int c), some (.ref rw_), some (.int (2 + m')), none, none, none, none, none, none, none, none, none, none, none, none, none]) rfl ?_
    rw [← hm]
    have m2 : 2 ≤ m := by omega
    have m4 : m ≤ 4 := by omega
    have hw8 := hw.keep hP7 k8
    have kC : Keep p H H8 := kB.trans ((Keep.of s7).trans k8)
    clear hm m0' m1' hw hP6 hP7 k8 s7 kB
    have ga : g2 a b < 1073741824 := Nat.lt_of_le_of_lt (g2_le (N := 8) (by omega) (by omega)) (by decide)
    have la := lf_bd (b := b) (M := 6) (by decide) (show -6 ≤ a by omega) (by omega)
    have lb := lf_bd2 (a := a) (M := 6) (by decide) (show -6 ≤ b by omega) (by omega)
    -- the guard and the condition
    refine ⟨_, rfl, _, rfl, _, rfl, sz3, fun ti hti => ⟨sz2, fun tg htg => ⟨_, rfl, ?_⟩⟩⟩
    have hti2 : (upd (upd H8 ti (tup3 a b c)) tg (.tup [.str "least", .ref ti])) ti = some (tup3 a b c) := at_upd _ upd_same htg
    have hG : LeastG (upd (upd H8 ti (tup3 a b c)) tg (.tup [.str "least", .ref ti])) tg a b c := ⟨ti, upd_same, hti2⟩
    have s9 : Same H8 (upd (upd H8 ti (tup3 a b c)) tg (.tup [.str "least", .ref ti])) := Same.new _ (Same.new _ (Same.refl _) hti) htg
    refine ⟨_, a, b, c, rfl, .inl ⟨rw_, rfl, hw8.same s9⟩, ga, fun mo H10 s10 hmo => ⟨_, _, rfl, ?_⟩⟩
    have hG10 := hG.same s10
    have hw10 := hw8.same (s9.trans s10)
    have hP10 := hP8.same (s9.trans s10)
    have kD := kC.trans (Keep.of (s9.trans s10))
    clear hti2 hG hw8 hP8 kC s9 s10 hti htg
    refine norm (σ' := [some (.ref p), some (.int i), some (.int n), some (.int a), some (.int b), some (.int c), some (.ref rw_), some (.int m), some (.ref tg), some (.ref mo), none, none, none, none, none, none, none, none, none, none, none]) rfl ?_
    obtain ⟨dx, q, ho, dq, hq⟩ := id hmo
    refine ⟨_, rfl, mo, _, dx, _, _, rfl, ho, T.clA, T.nAS, af_s _, q, _, dq, _, _, rfl, hq, T.clS, T.nI, sf_i _ _ _, ?_⟩
    refine ⟨_, rfl, mo, _, dx, _, _, rfl, ho, T.clA, T.nAS, af_s _, q, _, dq, _, _, rfl, hq, T.clS, T.nN, sf_n _ _ _, ?_⟩
    refine ⟨_, rfl, mo, _, dx, _, _, rfl, ho, T.clA, T.nAS, af_s _, q, _, dq, _, _, rfl, hq, T.clS, T.nO, sf_one _ _ _, sz3, fun tr htr => ?_⟩
    have s11 : Same H10 (upd H10 tr (tup3 (a.fdiv (g2 a b)) (b.fdiv (g2 a b)) (lf3 a b c))) := Same.new _ (Same.refl _) htr
    have hr11 : (upd H10 tr (tup3 (a.fdiv (g2 a b)) (b.fdiv (g2 a b)) (lf3 a b c))) tr = some (tup3 (a.fdiv (g2 a b)) (b.fdiv (g2 a b)) (lf3 a b c)) := upd_same
    obtain ⟨H11, hH11⟩ : ∃ L, L = upd H10 tr (tup3 (a.fdiv (g2 a b)) (b.fdiv (g2 a b)) (lf3 a b c)) := ⟨_, rfl⟩
    rw [← hH11] at s11 hr11
    refine change (H' := H11) hH11.symm ?_
    refine normG (σ' := [some (.ref p), some (.int i), some (.int n), some (.int a), some (.int b), some (.int c), some (.ref rw_), some (.int m), some (.ref tg), some (.ref mo), some (.ref tr), none, none, none, none, none, none, none, none, none, none]) rfl ?_
    have hG11 := hG10.same s11
    have hw11 := hw10.same s11
    have hmo11 := hmo.same s11
    have hP11 := hP10.same s11
    have kE := kD.trans (Keep.of s11)
    clear hG10 hw10 hmo hP10 kD s11 htr hH11 ho hq
    refine ⟨_, rfl, p, 2, t + 21, rfl, by decide, by decide, by omega, hP11, fun H12 d d0 d1 hP12 k12 => ⟨rfl, _, rfl, ?_⟩⟩
    have kF := kE.trans k12
    refine if_join (fun σ' H' => ∃ g mo row, σ' = [some (.ref p), some (.int i), some (.int n), some (.int a), some (.int b), some (.int c), some (.ref rw_), some (.int m), some (.ref g), some (.ref mo), some (.ref row), none, none, none, none, none, none, none, none, none, none] ∧ Pen H' p (t + 23) ∧ Keep p H H' ∧ StrAt K H' rw_ a b c ∧ ((LeastG H' g a b c ∧ AtlAt K H' mo (a.fdiv (g2 a b)) (b.fdiv (g2 a b)) (lf3 a b c) ∧ H' row = some (tup3 (a.fdiv (g2 a b)) (b.fdiv (g2 a b)) (lf3 a b c))) ∨
      ∃ r0, RestG H' g a b c m r0 ∧ 0 ≤ r0 ∧ r0 ≤ m - 1 ∧ RstAt K H' mo (a.fmod m) (b.fmod m) m ((r0 - c).fmod m) ∧ H' row = some (tup5 (a.fmod m) (b.fmod m) 0 m ((r0 - c).fmod m)))) (fun key => ?_)
      ⟨tg, mo, tr, rfl, hP12.mono (by omega), kF, hw11.keep hP11 k12, .inl ⟨hG11.keep hP11 k12, hmo11.keep hP11 k12, k12 _ _ (hP11.ne hr11 fun _ z => by cases z) hr11⟩⟩ ?_
    · have hw12 := hw11.keep hP11 k12
      clear hG11 hw11 hmo11 hP11 kE k12 hr11
      refine ⟨_, rfl, _, rfl, _, rfl, sz3, fun ti hti => ⟨_, rfl, ?_⟩⟩
      have hti2 : (upd H12 ti (tup3 a b c)) ti = some (tup3 a b c) := upd_same
      refine ⟨_, rfl, _, rfl, p, m, t + 22, rfl, by omega, by omega, by omega, hP12.same (Same.new _ (Same.refl _) hti), fun H13 r0 r00 r01 hP13 k13 => ⟨sz4, fun tg2 htg2 => ?_⟩⟩
      have hti3 : H13 ti = some (tup3 a b c) := k13 _ _ ((hP12.same (Same.new _ (Same.refl _) hti)).ne hti2 fun _ z => by cases z) hti2
      have hG : RestG (upd H13 tg2 (.tup [.str "rest", .ref ti, .int m, .int r0])) tg2 a b c m r0 := ⟨ti, upd_same, at_upd _ hti3 htg2⟩
      have hg2 : (upd H13 tg2 (.tup [.str "rest", .ref ti, .int m, .int r0])) tg2 = some (.tup [.str "rest", .ref ti, .int m, .int r0]) := upd_same
      have s14 : Same H13 (upd H13 tg2 (.tup [.str "rest", .ref ti, .int m, .int r0])) := Same.new _ (Same.refl _) htg2
      have hw14 := (((hw12.same (Same.new (tup3 a b c) (Same.refl _) hti)).keep (hP12.same (Same.new _ (Same.refl _) hti)) k13).same s14)
      have hP14 := hP13.same s14
      have kG := ((kF.trans (Keep.of (Same.new (tup3 a b c) (Same.refl _) hti))).trans k13).trans (Keep.of s14)
      refine normG (σ' := [some (.ref p), some (.int i), some (.int n), some (.int a), some (.int b), some (.int c), some (.ref rw_), some (.int m), some (.ref tg2), some (.ref mo), some (.ref tr), none, none, none, none, none, none, none, none, none, none]) rfl ?_
      refine ⟨_, rfl, _, rfl, _, rfl, tg2, _, _, _, rfl, rfl, SqT.of hg2, at3, ?_⟩
      refine ⟨_, m, r0, rfl, a, b, c, .inl ⟨rw_, rfl, hw14⟩, fun z => absurd ⟨m2, m4⟩ z, fun _ _ z => absurd ⟨r00, by omega⟩ z, fun _ _ _ _ mo2 H15 s15 hmo2 => ?_⟩
      refine normG (σ' := [some (.ref p), some (.int i), some (.int n), some (.int a), some (.int b), some (.int c), some (.ref rw_), some (.int m), some (.ref tg2), some (.ref mo2), some (.ref tr), none, none, none, none, none, none, none, none, none, none]) rfl ?_
      obtain ⟨dx, q, ho, dq, hq⟩ := id hmo2
      refine ⟨_, rfl, mo2, _, dx, _, _, rfl, ho, T.clR, T.nRS, rf_s _ _ _, q, _, dq, _, _, rfl, hq, T.clS, T.nI, sf_i _ _ _, ?_⟩
      refine ⟨_, rfl, mo2, _, dx, _, _, rfl, ho, T.clR, T.nRS, rf_s _ _ _, q, _, dq, _, _, rfl, hq, T.clS, T.nN, sf_n _ _ _, ?_⟩
      refine ⟨_, rfl, mo2, _, dx, _, _, rfl, ho, T.clR, T.nRS, rf_s _ _ _, q, _, dq, _, _, rfl, hq, T.clS, T.nO, sf_one _ _ _, ?_⟩
      refine ⟨_, rfl, mo2, _, dx, _, _, rfl, ho, T.clR, T.nRM, rf_m _ _ _, ?_⟩
      refine ⟨_, rfl, mo2, _, dx, _, _, rfl, ho, T.clR, T.nRR, rf_r _ _ _, sz5, fun tr2 htr2 => ?_⟩
      have s16 : Same H15 (upd H15 tr2 (tup5 (a.fmod m) (b.fmod m) 0 m ((r0 - c).fmod m))) := Same.new _ (Same.refl _) htr2
      exact key _ _ ⟨tg2, mo2, tr2, rfl, hP14.same (s15.trans s16), kG.trans (Keep.of (s15.trans s16)), hw14.same (s15.trans s16), .inr ⟨r0, hG.same (s15.trans s16), r00, by omega, hmo2.same s16, upd_same⟩⟩
    clear hG11 hw11 hmo11 hP11 hP12 kE kF k12 hr11
    rintro σ H13 ⟨g, mo', row, rfl, hP13, kG, hw13, hk⟩
    -- the row is that of the guard
    refine un_next ?_
    dsimp only
    refine mid (fun σ' H' => σ' = [some (.ref p), some (.int i), some (.int n), some (.int a), some (.int b), some (.int c), some (.ref rw_), some (.int m), some (.ref g), some (.ref mo'), some (.ref row), none, none, none, none, none, none, none, none, none, none] ∧ Pen H' p (t + 23) ∧ Keep p H H' ∧ StrAt K H' rw_ a b c ∧ ∃ h, GrdAt H' g h ∧ CndAt K H' mo' h) (fun key => ?_) ?_
    · rcases hk with ⟨hG, hM, hR⟩ | ⟨r0, hG, r00, r01, hM, hR⟩
      · refine ⟨_, rfl, _, rfl, g, rfl, .inl ⟨a, b, c, hG, ga, fun td htd => ?_⟩⟩
        refine ⟨_, _, dp3 (at_upd _ hR htd), dp3 upd_same, tup3_shaped _ _ _, tup3_shaped _ _ _, _, rfl, if_no (eq_self (tup3_shaped _ _ _)) ?_⟩
        have s14 := Same.new (tup3 (a.fdiv (g2 a b)) (b.fdiv (g2 a b)) (lf3 a b c)) (Same.refl H13) htd
        exact key _ _ ⟨rfl, hP13.same s14, kG.trans (Keep.of s14), hw13.same s14, fun i n => decide (0 ≤ a * i + b * n + c), .inl ⟨a, b, c, hG.same s14, ba.mono (by decide), bb.mono (by decide), fun _ _ => rfl⟩, .inl ⟨_, _, _, hM.same s14, by omega, by omega, fun _ _ => least_form.symm⟩⟩
      · have fa := fmod_range (x := a) (show 0 < m by omega)
        have fb := fmod_range (x := b) (show 0 < m by omega)
        have fr := fmod_range (x := r0 - c) (show 0 < m by omega)
        refine ⟨_, rfl, _, rfl, g, rfl, .inr ⟨a, b, c, m, r0, hG, by omega, fun td htd => ?_⟩⟩
        refine ⟨_, _, dp5 (at_upd _ hR htd), dp5 upd_same, tup5_shaped _ _ _ _ _, tup5_shaped _ _ _ _ _, _, rfl, if_no (eq_self (tup5_shaped _ _ _ _ _)) ?_⟩
        have s14 := Same.new (tup5 (a.fmod m) (b.fmod m) 0 m ((r0 - c).fmod m)) (Same.refl H13) htd
        exact key _ _ ⟨rfl, hP13.same s14, kG.trans (Keep.of s14), hw13.same s14, fun i n => decide ((a * i + b * n + c).fmod m = r0), .inr ⟨a, b, c, m, r0, hG.same s14, ba.mono (by decide), bb.mono (by decide), by omega, fun _ _ => rfl⟩, .inr ⟨_, _, m, _, hM.same s14, by omega, by omega, m2, m4, fr.1, by omega, fun _ _ => (rest_form m2 m4 r00 r01).symm⟩⟩
    clear hk hP13 kG hw13
    rintro σ H14 ⟨rfl, hP14, kH, hw14, h, hgr, hcn⟩
    refine ⟨_, rfl, _, rfl, p, _, 99, t + 23, rfl, by decide, by decide, by omega, hP14, fun H15 k k0 k1 hP15 k15 => ?_⟩
    refine ⟨_, rfl, _, rfl, p, m, t + 25, rfl, by omega, by omega, by omega, hP15, fun H16 r r0 r1 hP16 k16 => ⟨_, _, rfl, ?_⟩⟩
    have hgr16 := (hgr.keep hP14 k15).keep hP15 k16
    have hcn16 := (hcn.keep hP14 k15).keep hP15 k16
    have hw16 := (hw14.keep hP14 k15).keep hP15 k16
    have kI := kH.trans (k15.trans k16)
    clear hgr hcn hw14 hP14 hP15 k15 k16 kH
    refine norm (σ' := [some (.ref p), some (.int i), some (.int n), some (.int a), some (.int b), some (.int c), some (.ref rw_), some (.int m), some (.ref g), some (.ref mo'), some (.ref row), some (.int k), some (.int r), none, none, none, none, none, none, none, none]) rfl ?_
    have r1' : r ≤ m - 1 := by omega
    refine ⟨_, rfl, .int k, 0, 0, k, rfl, .inr ⟨rfl, rfl, rfl⟩, by decide, fun ma H17 s17 hma => ?_⟩
    refine ⟨_, rfl, _, rfl, _, rfl, .int k, m, r, rfl, 0, 0, k, .inr ⟨rfl, rfl, rfl⟩, fun z => absurd ⟨m2, m4⟩ z, fun _ _ z => absurd ⟨r0, r1'⟩ z, fun _ _ _ _ ml H18 s18 hml => ⟨_, _, rfl, ?_⟩⟩
    refine norm (σ' := [some (.ref p), some (.int i), some (.int n), some (.int a), some (.int b), some (.int c), some (.ref rw_), some (.int m), some (.ref g), some (.ref mo'), some (.ref row), some (.int k), some (.int r), some (.ref ma), some (.ref ml), none, none, none, none, none, none]) rfl ?_
    have hma18 := hma.same s18
    obtain ⟨dx, q, ho, dq, hq⟩ := id hma18
    refine ⟨_, rfl, ma, _, dx, _, _, rfl, ho, T.clA, T.nAS, af_s _, q, _, dq, _, _, rfl, hq, T.clS, T.nI, sf_i _ _ _, ?_⟩
    refine ⟨_, rfl, ma, _, dx, _, _, rfl, ho, T.clA, T.nAS, af_s _, q, _, dq, _, _, rfl, hq, T.clS, T.nN, sf_n _ _ _, ?_⟩
    refine ⟨_, rfl, ma, _, dx, _, _, rfl, ho, T.clA, T.nAS, af_s _, q, _, dq, _, _, rfl, hq, T.clS, T.nO, sf_one _ _ _, sz3, fun t1 h1 => ?_⟩
    refine ⟨_, rfl, sz3, fun t2 h2 => ⟨sz2, fun t3 h3 => ⟨t3, rfl, .inl ⟨0, 0, k, ⟨t2, upd_same, at_upd _ upd_same h3⟩, by decide, fun t4 h4 => ?_⟩⟩⟩⟩
    refine ⟨_, _, dp3 (at_upd _ (at_upd _ (at_upd _ upd_same h2) h3) h4), dp3 upd_same, tup3_shaped _ _ _, tup3_shaped _ _ _, _, rfl, if_no (eq_self (tup3_shaped _ _ _)) ?_⟩
    have s19 := Same.new (tup3 ((0 : Int).fdiv (g2 0 0)) ((0 : Int).fdiv (g2 0 0)) (lf3 0 0 k)) (Same.new (.tup [.str "least", .ref t2]) (Same.new (tup3 0 0 k) (Same.new (tup3 ((0 : Int).fdiv (g2 0 0)) ((0 : Int).fdiv (g2 0 0)) (lf3 0 0 k)) (Same.refl H18) h1) h2) h3) h4
    have hml19 := hml.same s19
    have sA := s17.trans (s18.trans s19)
    have hgr19 := hgr16.same sA
    have hcn19 := hcn16.same sA
    have hw19 := hw16.same sA
    have hma19 := hma18.same s19
    have hP19 := hP16.same sA
    have kJ := kI.trans (Keep.of sA)
    clear hgr16 hcn16 hw16 hma hma18 hml s17 s18 hP16 kI ho hq
    obtain ⟨dx, q, ho, dq, hq⟩ := id hml19
    refine ⟨_, rfl, ml, _, dx, _, _, rfl, ho, T.clR, T.nRS, rf_s _ _ _, q, _, dq, _, _, rfl, hq, T.clS, T.nO, sf_one _ _ _, ?_⟩
    refine ⟨_, rfl, ml, _, dx, _, _, rfl, ho, T.clR, T.nRM, rf_m _ _ _, ?_⟩
    refine ⟨_, rfl, ml, _, dx, _, _, rfl, ho, T.clR, T.nRR, rf_r _ _ _, sz3, fun t5 h5 => ?_⟩
    refine ⟨_, rfl, sz3, fun t6 h6 => ⟨_, rfl, _, rfl, sz4, fun t7 h7 => ⟨t7, rfl, .inr ⟨0, 0, k, m, r, ⟨t6, upd_same, at_upd _ upd_same h7⟩, by omega, fun t8 h8 => ?_⟩⟩⟩⟩
    refine ⟨2, rfl, t8, _, rfl, SqT.of upd_same, (show ¬ (HT.sIx 5 0 (some 2) = 0 ∧ HT.sIx 5 5 none = 5) by decide), fun t9 h9 => ?_⟩
    refine ⟨_, _, dp3 (at_upd _ (at_upd _ (at_upd _ (at_upd _ upd_same h6) h7) h8) h9), dp3 (a := 0) (b := m) (c := (r - k).fmod m) upd_same, tup3_shaped _ _ _, tup3_shaped _ _ _, _, rfl, if_no (eq_self (tup3_shaped _ _ _)) ?_⟩
    have sB := Same.new (.tup (cutV [.int ((0 : Int).fmod m), .int ((0 : Int).fmod m), .int 0, .int m, .int ((r - k).fmod m)] (some 2) none)) (Same.new (.tup [.int ((0 : Int).fmod m), .int ((0 : Int).fmod m), .int 0, .int m, .int ((r - k).fmod m)]) (Same.new (.tup [.str "rest", .ref t6, .int m, .int r]) (Same.new (tup3 0 0 k) (Same.new (tup3 0 m ((r - k).fmod m)) (Same.refl _) h5) h6) h7) h8) h9
    have hgr20 := hgr19.same sB
    have hcn20 := hcn19.same sB
    have hw20 := hw19.same sB
    have hma20 := hma19.same sB
    have hml20 := hml19.same sB
    have hP20 := hP19.same sB
    have kK := kJ.trans (Keep.of sB)
    clear hgr19 hcn19 hw19 hma19 hml19 hP19 kJ sA sB s19 ho hq
    have m0 : m ≠ 0 := by omega
    have bi4 : Bd 400 i := bi.mono (by decide)
    have bn4 : Bd 400 n := bn.mono (by decide)
    obtain ⟨dx, q, ho, _⟩ := id hma20
    obtain ⟨dy, q', ho', _⟩ := id hml20
    have z1 := lf_bd (a := 0) (b := 0) (M := 6) (by decide) (by decide) (by decide)
    have z2 := fmod_range (x := 0) (show 0 < m by omega)
    refine ⟨_, rfl, ma, dx, _, rfl, ho, ah_no _, _, rfl, _, rfl, ma, _, _, _, i, n, rfl, hma20, bd_small 6 z1.1 z1.2, bd_small 6 z1.1 z1.2, bi4, bn4, ?_⟩
    refine ⟨_, rfl, _, _, rfl, rfl, rfl, _, rfl, if_no (not_dec (congrArg V.bl ?_)) ?_⟩
    · exact least_form.trans (decide_eq_decide.mpr (by omega))
    refine ⟨_, rfl, ml, dy, _, rfl, ho', rh_no _ _ _, _, rfl, _, rfl, ml, _, _, m, _, i, n, rfl, hml20, bd_small 6 (by omega) (by omega), bd_small 6 (by omega) (by omega), bi4, bn4, m0, ?_⟩
    refine ⟨_, rfl, .inl ⟨_, rfl, _, rfl, _, _, rfl, rfl, m0, _, rfl, rfl, rfl, _, rfl, if_no (not_dec (congrArg V.bl ?_)) ?_⟩⟩
    · refine (rest_form m2 m4 r0 r1').trans (decide_eq_decide.mpr ?_)
      rw [Int.zero_mul, Int.zero_mul, Int.zero_add, Int.zero_add]
      exact ⟨congrArg V.int, V.int.inj⟩
    clear hma20 hml20 ho ho' z1 z2
    -- another counter
    refine ⟨_, rfl, p, 5, t + 26, rfl, by decide, by decide, by omega, hP20.mono (by omega), fun H21 f' f0 f1 hP21 k21 => ⟨_, _, rfl, rfl, ?_⟩⟩
    refine ⟨_, rfl, p, 19, t + 27, rfl, by decide, by decide, by omega, hP21, fun H22 s' g0 g1 hP22 k22 => ⟨_, _, rfl, rfl, _, _, rfl, ?_⟩⟩
    have hgr22 := (hgr20.keep hP20 k21).keep hP21 k22
    have hcn22 := (hcn20.keep hP20 k21).keep hP21 k22
    have hw22 := (hw20.keep hP20 k21).keep hP21 k22
    have kL := kK.trans (k21.trans k22)
    clear hgr20 hcn20 hw20 hP20 hP21 k21 k22 kK
    refine norm (σ' := [some (.ref p), some (.int i), some (.int n), some (.int a), some (.int b), some (.int c), some (.ref rw_), some (.int m), some (.ref g), some (.ref mo'), some (.ref row), some (.int k), some (.int r), some (.ref ma), some (.ref ml), some (.int (f' - 1)), some (.int (s' - 9)), none, none, none, none]) rfl ?_
    obtain ⟨f, hf⟩ : ∃ f, f = f' - 1 := ⟨_, rfl⟩
    obtain ⟨s, hs⟩ : ∃ s, s = s' - 9 := ⟨_, rfl⟩
    rw [← hf, ← hs]
    have bf : Bd 3 f := bd_small 4 (by omega) (by omega)
    have bs : Bd 4 s := bd_small 9 (by omega) (by omega)
    have f3 : -1 ≤ f ∧ f ≤ 3 := by omega
    clear hf hs f0 f1 g0 g1
    dsimp only
    refine mid (fun σ' H' => ∃ mv h2, σ' = [some (.ref p), some (.int i), some (.int n), some (.int a), some (.int b), some (.int c), some (.ref rw_), some (.int m), some (.ref g), some (.ref mo'), some (.ref row), some (.int k), some (.int r), some (.ref ma), some (.ref ml), some (.int f), some (.int s), some (.ref mv), none, none, none] ∧ Pen H' p (t + 28) ∧ Keep p H H' ∧ StrAt K H' rw_ a b c ∧ GrdAt H' g h ∧ TwoAt K H' mo' mv h h2 ∧ ∀ x y, h2 x y = h (f * x + s) y) (fun key => ?_) ?_
    · rcases hcn22 with ⟨a1, b1, c1, hM, ha1, hb1, he⟩ | ⟨a1, b1, m1, r1, hM, ha1, hb1, hm2, hm4, hr0, hr1, he⟩
      · obtain ⟨dx, q, ho, _⟩ := id hM
        have fa : -400 ≤ a1 * f ∧ a1 * f ≤ 400 := by
          have h5 : f = -1 ∨ f = 0 ∨ f = 1 ∨ f = 2 ∨ f = 3 := by omega
          rcases h5 with z | z | z | z | z <;> subst z <;> omega
        have gb : g2 (a1 * f) b1 < 1073741824 := Nat.lt_of_le_of_lt (g2_le (N := 400) (by omega) (by omega)) (by decide)
        refine .inl ⟨_, rfl, mo', dx, _, rfl, ho, ar_no _, _, rfl, _, rfl, mo', a1, b1, c1, f, s, rfl, hM, bd_small 100 (by omega) (by omega), bf.mono (by decide), bs.mono (by decide), gb, fun mv H23 s23 hmv => ?_⟩
        have l1 := lf_bd (b := b1) (M := 400) (by decide) fa.1 fa.2
        have l2 := lf_bd2 (a := a1 * f) (b := b1) (M := 400) (by decide) (by omega) (by omega)
        refine key _ _ ⟨mv, fun x y => h (f * x + s) y, rfl, hP22.same s23, kL.trans (Keep.of s23), hw22.same s23, hgr22.same s23, .inl ⟨a1, b1, c1, _, _, _, hM.same s23, hmv, bd_small 100 (by omega) (by omega), bd_small 100 (by omega) (by omega), bd_small 400 l1.1 l1.2, bd_small 400 l2.1 l2.2, he, fun x y => ?_⟩, fun _ _ => rfl⟩
        show h (f * x + s) y = _
        rw [he, least_form]
        refine decide_eq_decide.mpr ?_
        rw [Int.mul_add, Int.mul_assoc]
        constructor <;> intro z <;> omega
      · obtain ⟨dx, q, ho, _⟩ := id hM
        refine .inr ⟨_, rfl, mo', dx, _, rfl, ho, rr_no _ _ _, _, rfl, _, rfl, mo', a1, b1, m1, r1, f, s, rfl, hM, bd_small 100 (by omega) (by omega), bf.mono (by decide), bs.mono (by decide), hm2, hm4, hr0, hr1, fun mv H23 s23 hmv => ?_⟩
        have y1 := fmod_range (x := a1 * f) (show 0 < m1 by omega)
        have y2 := fmod_range (x := b1) (show 0 < m1 by omega)
        refine key _ _ ⟨mv, fun x y => h (f * x + s) y, rfl, hP22.same s23, kL.trans (Keep.of s23), hw22.same s23, hgr22.same s23, .inr ⟨a1, b1, m1, r1, _, _, m1, _, hM.same s23, hmv, bd_small 100 (by omega) (by omega), bd_small 100 (by omega) (by omega), bd_small 6 (by omega) (by omega), bd_small 6 (by omega) (by omega), by omega, by omega, he, fun x y => ?_⟩, fun _ _ => rfl⟩
        show h (f * x + s) y = _
        rw [he, rest_form hm2 hm4 hr0 hr1]
        refine decide_eq_decide.mpr ?_
        have e : a1 * (f * x + s) + b1 * y + 0 = a1 * f * x + b1 * y + (0 + a1 * s) := by
          rw [Int.mul_add, Int.mul_assoc]
          omega
        rw [e]
    clear hcn22 hP22 kL hw22 hgr22
    rintro σ H23 ⟨mv, h2, rfl, hP23, kM, hw23, hgr23, hTw, hh2⟩
    refine ⟨_, rfl, _, rfl, sz2, fun u1 q1 => ?_⟩
    refine ⟨_, rfl, _, _, rfl, rfl, _, rfl, sz2, fun u2 q2 => ?_⟩
    refine ⟨_, rfl, _, rfl, _, _, rfl, rfl, sz2, fun u3 q3 => ?_⟩
    refine ⟨_, rfl, _, _, rfl, rfl, _, rfl, _, _, rfl, rfl, sz2, fun u4 q4 => ⟨sz4, fun tt q5 => ?_⟩⟩
    have sP := Same.new (.tup [.ref u1, .ref u2, .ref u3, .ref u4]) (Same.new (.tup [.int (i + 2), .int (n + 2)]) (Same.new (.tup [.int (i), .int (n + 1)]) (Same.new (.tup [.int (i + 1), .int (n)]) (Same.new (.tup [.int (i), .int (n)]) (Same.refl H23) q1) q2) q3) q4) q5
    have w1 := at_upd (.tup [.ref u1, .ref u2, .ref u3, .ref u4]) (at_upd (.tup [.int (i + 2), .int (n + 2)]) (at_upd (.tup [.int (i), .int (n + 1)]) (at_upd (.tup [.int (i + 1), .int (n)]) (upd_same (H := H23) (a := u1) (o := (.tup [.int (i), .int (n)]))) q2) q3) q4) q5
    have w2 := at_upd (.tup [.ref u1, .ref u2, .ref u3, .ref u4]) (at_upd (.tup [.int (i + 2), .int (n + 2)]) (at_upd (.tup [.int (i), .int (n + 1)]) (upd_same (H := upd H23 u1 (.tup [.int (i), .int (n)])) (a := u2) (o := (.tup [.int (i + 1), .int (n)]))) q3) q4) q5
    have w3 := at_upd (.tup [.ref u1, .ref u2, .ref u3, .ref u4]) (at_upd (.tup [.int (i + 2), .int (n + 2)]) (upd_same (H := upd (upd H23 u1 (.tup [.int (i), .int (n)])) u2 (.tup [.int (i + 1), .int (n)])) (a := u3) (o := (.tup [.int (i), .int (n + 1)]))) q4) q5
    have w4 := at_upd (.tup [.ref u1, .ref u2, .ref u3, .ref u4]) (upd_same (H := upd (upd (upd H23 u1 (.tup [.int (i), .int (n)])) u2 (.tup [.int (i + 1), .int (n)])) u3 (.tup [.int (i), .int (n + 1)])) (a := u4) (o := (.tup [.int (i + 2), .int (n + 2)]))) q5
    have w5 := upd_same (H := upd (upd (upd (upd H23 u1 (.tup [.int (i), .int (n)])) u2 (.tup [.int (i + 1), .int (n)])) u3 (.tup [.int (i), .int (n + 1)])) u4 (.tup [.int (i + 2), .int (n + 2)])) (a := tt) (o := .tup [.ref u1, .ref u2, .ref u3, .ref u4])
    obtain ⟨L, hL⟩ : ∃ L, L = upd (upd (upd (upd (upd H23 u1 (.tup [.int (i), .int (n)])) u2 (.tup [.int (i + 1), .int (n)])) u3 (.tup [.int (i), .int (n + 1)])) u4 (.tup [.int (i + 2), .int (n + 2)])) tt (.tup [.ref u1, .ref u2, .ref u3, .ref u4]) := ⟨_, rfl⟩
    rw [← hL] at sP w1 w2 w3 w4 w5
    have bi1 : Bd 302 (i + 1) := (bi.add (bd_small 1 (by decide) (by decide))).mono (by decide)
    have bi2 : Bd 302 (i + 2) := (bi.add (bd_small 2 (by decide) (by decide))).mono (by decide)
    have bn1 : Bd 302 (n + 1) := (bn.add (bd_small 1 (by decide) (by decide))).mono (by decide)
    have bn2 : Bd 302 (n + 2) := (bn.add (bd_small 2 (by decide) (by decide))).mono (by decide)
    have all : ∀ (j : Nat) (xx : V), ([.ref u1, .ref u2, .ref u3, .ref u4] : List V)[j]? = some xx → ∃ u x y, xx = .ref u ∧ L u = some (.tup [.int x, .int y]) ∧ Bd 302 x ∧ Bd 302 y := by
      intro j xx h1
      match j, h1 with
      | 0, h1 => exact ⟨u1, i, n, (Option.some.inj h1).symm, w1, bi.mono (by decide), bn.mono (by decide)⟩
      | 1, h1 => exact ⟨u2, i + 1, n, (Option.some.inj h1).symm, w2, bi1, bn.mono (by decide)⟩
      | 2, h1 => exact ⟨u3, i, n + 1, (Option.some.inj h1).symm, w3, bi.mono (by decide), bn1⟩
      | 3, h1 => exact ⟨u4, i + 2, n + 2, (Option.some.inj h1).symm, w4, bi2, bn2⟩
      | j + 4, h1 => cases h1
    have hw24 := hw23.same sP
    have hgr24 := hgr23.same sP
    have hTw24 := hTw.same sP
    have hP24 := hP23.same sP
    have kN := kM.trans (Keep.of sP)
    clear w1 w2 w3 w4 bi1 bi2 bn1 bn2 hw23 hgr23 hTw hP23 kM
    rw [← hL]
    clear hL sP q1 q2 q3 q4 q5
    refine ⟨tt, rfl, ⟨_, SqT.of w5⟩, for_tup (xs := [.ref u1, .ref u2, .ref u3, .ref u4]) (fun _ σ H' => ∃ v18 v19 v20, σ = [some (.ref p), some (.int i), some (.int n), some (.int a), some (.int b), some (.int c), some (.ref rw_), some (.int m), some (.ref g), some (.ref mo'), some (.ref row), some (.int k), some (.int r), some (.ref ma), some (.ref ml), some (.int f), some (.int s), some (.ref mv), v18, v19, v20] ∧ Same L H') ⟨none, none, none, rfl, Same.refl _⟩ (fun j σ H' _ ⟨_, _, _, _, s⟩ => SqT.of (s _ _ w5)) ?_ ?_⟩
    · rintro j xx σ H' hx ⟨v18, v19, v20, rfl, sl⟩
      obtain ⟨u, x, y, rfl, hu, bx, by_⟩ := all j xx hx
      have hu2 := sl _ _ hu
      have hT2 := hTw24.same sl
      have hg2 := hgr24.same sl
      refine normG (σ' := [some (.ref p), some (.int i), some (.int n), some (.int a), some (.int b), some (.int c), some (.ref rw_), some (.int m), some (.ref g), some (.ref mo'), some (.ref row), some (.int k), some (.int r), some (.ref ma), some (.ref ml), some (.int f), some (.int s), some (.ref mv), some (.ref u), v19, v20]) rfl ?_
      dsimp only
      refine mid (fun σ' H'' => σ' = [some (.ref p), some (.int i), some (.int n), some (.int a), some (.int b), some (.int c), some (.ref rw_), some (.int m), some (.ref g), some (.ref mo'), some (.ref row), some (.int k), some (.int r), some (.ref ma), some (.ref ml), some (.int f), some (.int s), some (.ref mv), some (.ref u), some (.bl (h x y)), some (.bl (h2 x y))] ∧ H'' = H') (fun key => ?_) ?_
      · rcases hT2 with ⟨a1, b1, c1, x1, y1, z1, hM, hN, e1, e2, e3, e4, he, he2⟩ | ⟨a1, b1, m1, r1, x1, y1, m2', r2, hM, hN, e1, e2, e3, e4, n1, n2, he, he2⟩
        · obtain ⟨dx, q, ho, _⟩ := id hM
          obtain ⟨dy, q', ho', _⟩ := id hN
          refine .inl ⟨_, rfl, mo', dx, _, rfl, ho, ah_no _, _, rfl, u, _, _, _, rfl, rfl, SqT.of hu2, at0, _, rfl, u, _, _, _, rfl, rfl, SqT.of hu2, at1, mo', a1, b1, c1, x, y, rfl, hM, e1, e2, bx.mono (by decide), by_.mono (by decide), ?_⟩
          refine .inl ⟨_, rfl, mv, dy, _, rfl, ho', ah_no _, _, rfl, u, _, _, _, rfl, rfl, SqT.of hu2, at0, _, rfl, u, _, _, _, rfl, rfl, SqT.of hu2, at1, mv, x1, y1, z1, x, y, rfl, hN, e3, e4, bx.mono (by decide), by_.mono (by decide), _, _, rfl, ?_⟩
          refine key _ _ ⟨?_, rfl⟩
          rw [he x y, he2 x y]
          try rfl
        · obtain ⟨dx, q, ho, _⟩ := id hM
          obtain ⟨dy, q', ho', _⟩ := id hN
          refine .inr ⟨_, rfl, mo', dx, _, rfl, ho, rh_no _ _ _, _, rfl, u, _, _, _, rfl, rfl, SqT.of hu2, at0, _, rfl, u, _, _, _, rfl, rfl, SqT.of hu2, at1, mo', a1, b1, m1, r1, x, y, rfl, hM, e1, e2, bx.mono (by decide), by_.mono (by decide), n1, ?_⟩
          refine .inr ⟨_, rfl, mv, dy, _, rfl, ho', rh_no _ _ _, _, rfl, u, _, _, _, rfl, rfl, SqT.of hu2, at0, _, rfl, u, _, _, _, rfl, rfl, SqT.of hu2, at1, mv, x1, y1, m2', r2, x, y, rfl, hN, e3, e4, bx.mono (by decide), by_.mono (by decide), n2, _, _, rfl, ?_⟩
          refine key _ _ ⟨?_, rfl⟩
          rw [he x y, he2 x y]
          try rfl
      rintro σ H'' ⟨rfl, rfl⟩
      refine ⟨_, rfl, _, _, _, _, _, rfl, .ty _, .base (.bl _), kbb, ?_⟩
      refine ⟨_, rfl, if_no rfl ?_⟩
      refine ⟨_, rfl, _, rfl, _, rfl, u, _, _, _, rfl, rfl, SqT.of hu2, at0, _, rfl, u, _, _, _, rfl, rfl, SqT.of hu2, at1, g, h, x, y, rfl, hg2, bx.mono (by decide), by_.mono (by decide), ?_⟩
      refine ⟨rfl, _, rfl, if_no (not_dec rfl) ?_⟩
      refine ⟨_, rfl, _, _, _, _, _, rfl, .ty _, .base (.bl _), kbb, ?_⟩
      refine ⟨_, rfl, if_no rfl ?_⟩
      refine ⟨_, rfl, _, rfl, _, rfl, _, rfl, u, _, _, _, rfl, rfl, SqT.of hu2, at0, _, _, rfl, rfl, bd_c bf bx, _, rfl, _, _, rfl, rfl, _, rfl, u, _, _, _, rfl, rfl, SqT.of hu2, at1, g, h, f * x + s, y, rfl, hg2, ((bf.mul bx).add (bs.mono (by decide))).mono (by decide), by_.mono (by decide), ?_⟩
      refine ⟨rfl, _, rfl, if_no (not_dec (congrArg V.bl (hh2 x y))) ?_⟩
      exact ⟨_, _, _, rfl, sl⟩
    rintro σ H' ⟨v18, v19, v20, rfl, sl⟩
    obtain ⟨dw, hw⟩ := hw24.same sl
    refine ⟨_, rfl, rw_, _, dw, _, _, rfl, hw, T.clS, T.nI, sf_i _ _ _, _, rfl, rw_, _, dw, _, _, rfl, hw, T.clS, T.nN, sf_n _ _ _, _, rfl, rw_, _, dw, _, _, rfl, hw, T.clS, T.nO, sf_one _ _ _, sz3, fun t7 h7 => ?_⟩
    refine ⟨_, rfl, _, rfl, _, rfl, sz3, fun t8 h8 => ?_⟩
    refine ⟨_, _, dp3 (at_upd _ (upd_same (H := H') (a := t7) (o := tup3 a b c)) h8), dp3 upd_same, tup3_shaped _ _ _, tup3_shaped _ _ _, ?_⟩
    rw [SeqAt.eqv_refl _ (SeqAt.canLay_of_shaped (tup3_shaped _ _ _))]
    have sQ := sl.trans (Same.new (tup3 a b c) (Same.new (tup3 a b c) (Same.refl H') h7) h8)
    exact kk _ ((hP24.same sQ).mono (by omega)) (kN.trans (Keep.of sQ))
end
end K21

set_option maxHeartbeats 4000000
namespace K21
open PySem PySem.Spec PyProof.Rows L2 Z
def spLaw (K : PySem.W.Frag) : Sp := fun vs H Q _ => ∃ (a : Addr) (ns : List Int), vs = [.ref a] ∧ SqL K H a (ns.map V.int) ∧ ns.length ≤ 63 ∧ ∀ H', Q (.bl true) H'
theorem mod_ok : PyData.strOk ("modulus" : Str) = true := by decide +kernel
theorem rest_ok : PyData.strOk ("rest" : Str) = true := by decide +kernel
theorem two_shaped {x : Str} (e : PyData.strOk x = true) (n : Int) : SeqAt.shaped (.tuple [.str x, .int n]) = true := by simp [SeqAt.shaped, PyData.canLay0, PyData.canLayAll0, PyData.depth, PyData.depthAll, e]
theorem dp2 {K : PySem.W.Frag} {H : Hp} {t : Addr} {x : Str} {n : Int} (h : H t = some (.tup [.str x, .int n])) : Dp K H (.ref t) (.tuple [.str x, .int n]) := .tup (SqT.of h) (.cons (.str _) (.cons (.int _) .nil))
section
variable {P : Program} {w : World} {K : PySem.W.Frag} {mg : Str → Option Value} {base : Heap}
theorem sc_law : FnScope ["_law_script", "_law_pen_here", "_law_turn", "_law_m", "_law_bad", "_law_rest"] ["_law_script"] (defScope s_law) := ⟨rfl, rfl, rfl, by decide +kernel, rfl, by decide +kernel, by decide +kernel⟩
theorem ok_law {f : Addr} {fd : FuncData} (F : FnP K "law" s_law f fd) (T : LwTx K mg) (dPen : Dn P w K mg base 1 "_law_pen" ["_law_script"] (spPen K)) (dDraw : Dn P w K mg base 1 "_law_draw" ["_law_pen_here", "_law_many"] spDraw)
    (dPair : Dn P w K mg base 6 "_law_pair_right" ["_law_pen_here"] spPair) (dGuardR : Dn P w K mg base 8 "_law_guard_right" ["_law_pen_here"] spPair) (dRefused : Dn P w K mg base 7 "_law_refused_rest" ["_law_modulus", "_law_rest"] spRefusedR) : FnOk P w K mg base CX0 9 f fd ["_law_script"] (spLaw K) := by
  refine F.ok sc_law (fun vs H Q E h => ?_) (fun cdv A outer s H vs Q E hr h => ?_)
  · obtain ⟨a, ns, rfl, _⟩ := h
    rfl
  · obtain ⟨a, ns, rfl, hS, hl, k⟩ := h
    refine ⟨_, PSs.nox (pss_cons (ps_set (i := 1) sc_law.nd rfl (Or.inl rfl) (pe_dn dPen hr (pa_cons (pv 0) pa_nil)))
      (pss_cons (ps_for PassesOwn.never rfl (pi_range1 (by rfl) T.range (pa_cons (pe_op op_add pe_int (pe_dn dDraw hr (pa_cons (pv 1) (pa_cons pe_int pa_nil)))) pa_nil)) (pg_name (i := 2) sc_law.nd rfl (.inl rfl)) (pss_one (ps_if (PW.pt (pw_or (pt_not (pt_val (pe_dn dPair hr (pa_cons (pv 1) pa_nil)))) (pw_or1 (pt_not (pt_val (pe_dn dGuardR hr (pa_cons (pv 1) pa_nil))))))) (pss_one (ps_ret pe_bl)) pss_nil)))
      (pss_cons (ps_par (i := 3) (j := 4) (by rfl) sc_law.nd rfl rfl (by decide) rfl rfl (pa_cons (pe_op op_add pe_int (pe_dn dDraw hr (pa_cons (pv 1) (pa_cons pe_int pa_nil)))) (pa_cons (pe_ix ix_list (pe_lst (pa_cons pe_int (pa_cons pe_int (pa_cons pe_int (pa_cons (pe_un un_neg pe_int) (pa_cons pe_int pa_nil)))))) (pe_dn dDraw hr (pa_cons (pv 1) (pa_cons pe_int pa_nil))) (fun _ _ => rfl)) pa_nil)) (by rfl))
      (pss_cons (ps_set (i := 5) sc_law.nd rfl (Or.inl rfl) (pe_ix ix_list (pe_lst (pa_cons (pe_un un_neg pe_int) (pa_cons (pv 3) (pa_cons (pe_op op_add (pv 3) pe_int) (pa_cons (pe_un un_neg (pv 3)) pa_nil))))) (pe_dn dDraw hr (pa_cons (pv 1) (pa_cons pe_int pa_nil))) (fun _ _ => rfl)))
      (pss_cons (ps_if (PW.pt (pw_or (pt_cmpR (op_neD hr.units) (pe_dn dRefused hr (pa_cons (pv 4) (pa_cons (pv 5) pa_nil))) (pe_tup (pa_cons pe_str (pa_cons (pv 4) pa_nil))) (nomark _)) (pw_or1 (pt_cmpR (op_neD hr.units) (pe_dn dRefused hr (pa_cons (pv 4) (pa_cons pe_int pa_nil))) (pe_tup (pa_cons pe_str (pa_cons (pv 4) pa_nil))) (nomark _))))) (pss_one (ps_ret pe_bl)) pss_nil)
      (pss_one (ps_ret (pe_and (pe_cmpR (op_eqD hr.units) (pe_dn dRefused hr (pa_cons (pv 3) (pa_cons (pv 5) pa_nil))) (pe_tup (pa_cons pe_str (pa_cons (pv 5) pa_nil))) (nomark _)) (pe_one (pe_cmpR op_isN (pe_dn dRefused hr (pa_cons (pv 3) (pa_cons (pe_op op_sub (pv 3) pe_int) pa_nil))) pe_non (nomark _))))))))))), ?_⟩
    refine ⟨_, rfl, a, ns, rfl, hS, hl, fun H1 p s1 hp hP => ?_⟩
    refine ⟨_, rfl, p, 3, 0, rfl, by decide, by decide, by omega, hP, fun H2 d d0 d1 hP2 k2 => ⟨_, _, rfl, rfl, ?_⟩⟩
    obtain ⟨j, rfl⟩ : ∃ j : Nat, d = (j : Int) := ⟨d.toNat, by omega⟩
    refine ⟨1 + (j : Int), rfl, by omega, by omega, ?_⟩
    rw [show (1 + (j : Int)).toNat = j + 1 by omega]
    refine for_range (lo := 0) (n := j + 1) (fun i σ H' => ∃ v2 v3 v4 v5 : Option V, σ = [some (.ref a), some (.ref p), v2, v3, v4, v5] ∧ Pen H' p (1 + 200 * i)) ⟨_, _, _, _, rfl, hP2⟩ ?_ ?_
    · rintro i σ H3 hi ⟨v2, v3, v4, v5, rfl, hP3⟩
      refine ⟨_, rfl, p, 1 + 200 * i, rfl, by omega, hP3, fun H4 hP4 k4 => ?_⟩
      refine ⟨_, rfl, if_no rfl ?_⟩
      refine ⟨_, rfl, p, 1 + 200 * i + 100, rfl, by omega, hP4, fun H5 hP5 k5 => ?_⟩
      refine ⟨_, rfl, if_no rfl ?_⟩
      exact ⟨_, _, _, _, rfl, hP5.mono (by omega)⟩
    · rintro σ H3 ⟨v2, v3, v4, v5, rfl, hP3⟩
      refine ⟨_, rfl, p, 3, 1 + 200 * (j + 1), rfl, by decide, by decide, by omega, hP3, fun H4 m' m0 m1 hP4 k4 => ⟨_, _, rfl, rfl, ?_⟩⟩
      refine ⟨_, rfl, sz5, fun l hl2 => ?_⟩
      have hP5 := hP4.same (Same.new (.lst [.int 1, .int 0, .int 5, .int (-2), .int 12]) (Same.refl _) hl2)
      have hL : (upd H4 l (.lst [.int 1, .int 0, .int 5, .int (-2), .int 12])) l = some (.lst [.int 1, .int 0, .int 5, .int (-2), .int 12]) := upd_same
      refine ⟨_, rfl, p, 5, 1 + 200 * (j + 1) + 1, rfl, by decide, by decide, by omega, hP5, fun H6 e e0 e1 hP6 k6 => ?_⟩
      have hL6 := k6 _ _ (hP5.ne hL fun _ z => by cases z) hL
      obtain ⟨q, rfl⟩ : ∃ q : Nat, e = (q : Int) := ⟨e.toNat, by omega⟩
      have hv : ∃ v : Int, ([.int 1, .int 0, .int 5, .int (-2), .int 12] : List V)[q]? = some (.int v) ∧ ¬ (2 ≤ v ∧ v ≤ 4) := by
        have hq5 : q < 5 := by omega
        match q, hq5 with
        | 0, _ => exact ⟨_, rfl, by omega⟩
        | 1, _ => exact ⟨_, rfl, by omega⟩
        | 2, _ => exact ⟨_, rfl, by omega⟩
        | 3, _ => exact ⟨_, rfl, by omega⟩
        | 4, _ => exact ⟨_, rfl, by omega⟩
      obtain ⟨bad, hb, hbad⟩ := hv
      refine ⟨l, _, _, _, rfl, rfl, SqL.of hL6, atI_nat hb, _, _, rfl, ?_⟩
      obtain ⟨m, hm⟩ : ∃ m, m = 2 + m' := ⟨_, rfl⟩
      refine norm (σ' := [some (.ref a), some (.ref p), v2, some (.int (2 + m')), some (.int bad), v5]) rfl ?_
      rw [← hm]
      have m2 : 2 ≤ m := by omega
      have m4 : m ≤ 4 := by omega
      refine ⟨_, rfl, _, rfl, _, rfl, _, _, rfl, rfl, _, rfl, _, rfl, sz4, fun l2 hl3 => ?_⟩
      have hP7 := hP6.same (Same.new (.lst [.int (-1), .int m, .int (m + 7), .int (-m)]) (Same.refl _) hl3)
      have hM : (upd H6 l2 (.lst [.int (-1), .int m, .int (m + 7), .int (-m)])) l2 = some (.lst [.int (-1), .int m, .int (m + 7), .int (-m)]) := upd_same
      refine ⟨_, rfl, p, 4, 1 + 200 * (j + 1) + 2, rfl, by decide, by decide, by omega, hP7, fun H8 e e0 e1 hP8 k8 => ?_⟩
      have hM8 := k8 _ _ (hP7.ne hM fun _ z => by cases z) hM
      obtain ⟨q2, rfl⟩ : ∃ q : Nat, e = (q : Int) := ⟨e.toNat, by omega⟩
      have hv : ∃ v : Int, ([.int (-1), .int m, .int (m + 7), .int (-m)] : List V)[q2]? = some (.int v) ∧ ¬ (0 ≤ v ∧ v ≤ m - 1) := by
        have hq5 : q2 < 4 := by omega
        match q2, hq5 with
        | 0, _ => exact ⟨_, rfl, by omega⟩
        | 1, _ => exact ⟨_, rfl, by omega⟩
        | 2, _ => exact ⟨_, rfl, by omega⟩
        | 3, _ => exact ⟨_, rfl, by omega⟩
      obtain ⟨r, hr4, hrest⟩ := hv
      refine ⟨l2, _, _, _, rfl, rfl, SqL.of hM8, atI_nat hr4, ?_⟩
      refine normG (σ' := [some (.ref a), some (.ref p), v2, some (.int m), some (.int bad), some (.int r)]) rfl ?_
      refine ⟨_, rfl, _, rfl, bad, r, rfl, fun _ t5 H5 s5 h5 => ⟨_, rfl, sz2, fun t6 h6 => ?_⟩, fun z1 z2 => absurd ⟨z1, z2⟩ hbad, fun z1 z2 => absurd ⟨z1, z2⟩ hbad⟩
      refine ⟨_, _, dp2 (at_upd _ h5 h6), dp2 upd_same, two_shaped mod_ok _, two_shaped mod_ok _, _, rfl, if_no (eq_self (two_shaped mod_ok _)) ?_⟩
      refine ⟨_, rfl, bad, 0, rfl, fun _ t7 H7 s7 h7 => ⟨_, rfl, sz2, fun t8 h8 => ?_⟩, fun z1 z2 => absurd ⟨z1, z2⟩ hbad, fun z1 z2 => absurd ⟨z1, z2⟩ hbad⟩
      refine ⟨_, _, dp2 (at_upd _ h7 h8), dp2 upd_same, two_shaped mod_ok _, two_shaped mod_ok _, _, rfl, if_no (eq_self (two_shaped mod_ok _)) ?_⟩
      refine ⟨_, rfl, _, rfl, m, r, rfl, fun z => absurd ⟨m2, m4⟩ z, fun _ _ _ t9 H9 s9 h9 => ⟨_, rfl, sz2, fun t10 h10 => ?_⟩, fun _ _ z1 z2 => absurd ⟨z1, z2⟩ hrest⟩
      refine ⟨_, _, dp2 (at_upd _ h9 h10), dp2 upd_same, two_shaped rest_ok _, two_shaped rest_ok _, ?_⟩
      rw [SeqAt.eqv_refl _ (SeqAt.canLay_of_shaped (two_shaped rest_ok _))]
      refine ⟨_, rfl, iteT ?_⟩
      refine ⟨_, rfl, _, rfl, _, _, rfl, rfl, m, m - 1, rfl, fun z => absurd ⟨m2, m4⟩ z, fun _ _ z => absurd ⟨by omega, by omega⟩ z, fun _ _ _ _ H11 s11 => ?_⟩
      refine ⟨rfl, ?_⟩
      rw [decide_eq_true rfl]
      exact k _
end
end K21

set_option maxHeartbeats 0
namespace K21
open PySem PySem.Spec PyProof.Rows L2 Z
theorem run (w : World) : HandSHeadRun.RunEqI R (PySem.W.view R.prog [0, 34]) hk ob 60000 names w := by
  unfold HandSHeadRun.RunEqI
  kernel_rfl
end K21

set_option maxHeartbeats 0
namespace K21
open PySem PySem.Spec PyProof.Rows L2 Z
theorem inx_of {K : PySem.W.Frag} {C : Addr} (h : insB K C = true) : Inx K C := by
  obtain ⟨h1, h⟩ := He.ba h
  obtain ⟨h2, h⟩ := He.ba h
  obtain ⟨h3, h4⟩ := He.ba h
  exact ⟨He.eqO_ok h1, He.eqO_ok h2, of_decide_eq_true h3, of_decide_eq_true h4⟩
theorem fnIn_of {K : PySem.W.Frag} {x q : Str} {a b e d l f fd} (F : FunD K x q a b e d l f fd) : PySem.W.fnIn K f = true := by
  obtain ⟨oc, od, dV, kV, doc, pm, an, cdv, ct, osl, rfl, lk, _⟩ := F.ex
  unfold PySem.W.fnIn
  rw [lk]
theorem facts {P : Program} {w : World} {K : PySem.W.Frag} {h : Heap} {mg : Str → Option Value} {f : Addr} (X : K.In h) (G : h.Ns mainGlobals mg) (hfa : mg ("law" : Str) = some (.ref f)) (c : SaysX fa fn K) :
    ∃ fd : FuncData, (∀ (s : Shared) (v : Value), BindsTo s fd ⟨[v], []⟩ [("_law_script", v)]) ∧ ∀ base : Heap, K.In base → base.Ns mainGlobals mg → FnOk P w K mg base CX0 9 f fd ["_law_script"] (spLaw K) := by
  have gl : ∀ x ∈ glos, mg x = some (.ref (He.ga K x)) := fun x hx => He.glo_ok X G (List.all_eq_true.mp (c.fact 0) x hx)
  have fr : ∀ x ∈ frees, mg x = none := fun x hx => He.free_ok X G (List.all_eq_true.mp (c.fact 1) x hx)
  have ow : ∀ x ∈ owns, Cls K (He.ga K x) ∧ Mk K (He.ga K x) (He.ma K (He.ga K x) "__init__") ∧ Inx K (He.ga K x) := fun x hx => by
    obtain ⟨h1, z⟩ := He.ba (List.all_eq_true.mp (c.fact 2) x hx)
    obtain ⟨h2, h3⟩ := He.ba z
    exact ⟨He.cls_ok h1, He.mkr_ok h2, inx_of h3⟩
  have na : ∀ q ∈ atts, NoAttr K (He.ga K q.1) q.2 := fun q hq => He.noat_ok (List.all_eq_true.mp (c.fact 3) q hq)
  have me : ∀ q ∈ mets, Meth K (He.ga K q.1) q.2 (He.ma K (He.ga K q.1) q.2) := fun q hq => He.meth_ok (List.all_eq_true.mp (c.fact 4) q hq)
  have op : ∀ q ∈ oprs, OpI K (He.ga K q.1) q.2 := fun q hq => opiB_ok (List.all_eq_true.mp (c.fact 5) q hq)
  have kt := c.fact 7
  unfold kits at kt
  simp only [Bool.and_eq_true, decide_eq_true_eq] at kt
  obtain ⟨⟨⟨⟨⟨⟨⟨_, kSi⟩, kSS⟩, kiS⟩, ktS⟩, kuS⟩, kii0⟩, kib0⟩ := kt
  have gcd : mg "gcd" = some (.builtin "math.gcd") := PySem.W.mg_of X G (He.eqO_ok (c.fact 8))
  have nf := c.fact 9
  simp only [List.all_cons, List.all_nil, Bool.and_eq_true] at nf
  obtain ⟨nSi, nSt, nSu, nSS, _⟩ := nf
  have ex : PySem.W.exmOne K (.ref (CB K)) (.ref (CB K)) = some true := of_decide_eq_true (c.fact 10)
  have EB : EC K mg "BadNumber" ["what", "number"] := by
    obtain ⟨h1, z⟩ := He.ba (List.all_eq_true.mp (c.fact 6) (("BadNumber", ["what", "number"]) : Str × List Str) (by decide +kernel))
    obtain ⟨h2, z⟩ := He.ba z
    obtain ⟨h3, z⟩ := He.ba z
    obtain ⟨h4, h5⟩ := He.ba z
    exact { gC := gl "BadNumber" (by decide +kernel), ox := oex_of h2 (exkB_ok h1), ex := exkB_ok h1, iC := He.eqO_ok h3, tI := of_decide_eq_true h4, na := fun x hx => He.eqO_ok (List.all_eq_true.mp h5 x hx) }
  have topM : ∃ t, mg "TOP_MODULUS" = some (.int 4 t) := by
    have z := c.fact 11
    cases e : PySem.W.nsIn K mainGlobals "TOP_MODULUS" with
    | none =>
      rw [e] at z
      cases z
    | some o =>
      rw [e] at z
      cases o with
      | none => cases z
      | some v =>
        cases v with
        | int i t =>
          by_cases h4 : i = 4
          · subst h4
            exact ⟨t, PySem.W.mg_of X G e⟩
          · exfalso
            revert z
            simp [h4]
        | _ => cases z
  obtain ⟨ne1, ne2⟩ := He.ba (c.fact 12)
  have NE : NeC K (CS K) := ⟨He.eqO_ok ne1, of_decide_eq_true ne2⟩
  have T : LwTx K mg := {
    gS := gl "Straight" (by decide +kernel), clS := (ow "Straight" (by decide +kernel)).1, mkS := (ow "Straight" (by decide +kernel)).2.1, ixS := (ow "Straight" (by decide +kernel)).2.2
    nI := na ("Straight", "i") (by decide +kernel), nN := na ("Straight", "n") (by decide +kernel), nO := na ("Straight", "one") (by decide +kernel)
    kSi := kSi, kSS := kSS, kiS := kiS
    isi := fr _ (by decide +kernel), int := fr _ (by decide +kernel), bool := fr _ (by decide +kernel)
    gA := gl "AtLeast" (by decide +kernel), clA := (ow "AtLeast" (by decide +kernel)).1, mkA := (ow "AtLeast" (by decide +kernel)).2.1
    nAS := na ("AtLeast", "straight") (by decide +kernel)
    gR := gl "Rest" (by decide +kernel), clR := (ow "Rest" (by decide +kernel)).1, mkR := (ow "Rest" (by decide +kernel)).2.1
    nRS := na ("Rest", "straight") (by decide +kernel), nRM := na ("Rest", "modulus") (by decide +kernel), nRR := na ("Rest", "rest") (by decide +kernel)
    gcd := gcd, topM := topM
    len := fr _ (by decide +kernel), list := fr _ (by decide +kernel), range := fr _ (by decide +kernel), str := fr _ (by decide +kernel), abs := fr _ (by decide +kernel), max := fr _ (by decide +kernel), min := fr _ (by decide +kernel), zip := fr _ (by decide +kernel) }
  obtain ⟨fd_is_integer, F_is_integer⟩ := c.def_ 0 (d := d_is_integer) rfl
  obtain ⟨fd_is_integer_from, F_is_integer_from⟩ := c.def_ 1 (d := d_is_integer_from) rfl
  obtain ⟨fd_is_straight, F_is_straight⟩ := c.def_ 2 (d := d_is_straight) rfl
  obtain ⟨fd_straight_like, F_straight_like⟩ := c.def_ 3 (d := d_straight_like) rfl
  obtain ⟨fd_value_of, F_value_of⟩ := c.def_ 4 (d := d_value_of) rfl
  obtain ⟨fd_added, F_added⟩ := c.def_ 5 (d := d_added) rfl
  obtain ⟨fd_replaced_straight, F_replaced_straight⟩ := c.def_ 6 (d := d_replaced_straight) rfl
  obtain ⟨fd__law_pen, F__law_pen⟩ := c.def_ 7 (d := d_law_pen) rfl
  obtain ⟨fd__law_draw, F__law_draw⟩ := c.def_ 8 (d := d_law_draw) rfl
  obtain ⟨fd__law_big, F__law_big⟩ := c.def_ 9 (d := d_law_big) rfl
  obtain ⟨fd__law_between, F__law_between⟩ := c.def_ 10 (d := d_law_between) rfl
  obtain ⟨fd__law_far, F__law_far⟩ := c.def_ 11 (d := d_law_far) rfl
  obtain ⟨fd__law_divisor, F__law_divisor⟩ := c.def_ 12 (d := d_law_divisor) rfl
  obtain ⟨fd__law_guard_due, F__law_guard_due⟩ := c.def_ 13 (d := d_law_guard_due) rfl
  obtain ⟨fd__law_value, F__law_value⟩ := c.def_ 14 (d := d_law_value) rfl
  obtain ⟨fd__law_guard_holds, F__law_guard_holds⟩ := c.def_ 15 (d := d_law_guard_holds) rfl
  obtain ⟨fd__law_three, F__law_three⟩ := c.def_ 16 (d := d_law_three) rfl
  obtain ⟨fd__law_is_sum, F__law_is_sum⟩ := c.def_ 17 (d := d_law_is_sum) rfl
  obtain ⟨fd__law_pair_right, F__law_pair_right⟩ := c.def_ 18 (d := d_law_pair_right) rfl
  obtain ⟨fd__law_guard_right, F__law_guard_right⟩ := c.def_ 19 (d := d_law_guard_right) rfl
  obtain ⟨fd__law_refused_rest, F__law_refused_rest⟩ := c.def_ 20 (d := d_law_refused_rest) rfl
  obtain ⟨fd_law, F_law⟩ := c.def_ 21 (d := d_law) rfl
  obtain ⟨fdBadNumber__init__, FBadNumber__init__⟩ := c.def_ 22 (d := dBadNumber__init__) rfl
  obtain ⟨fdStraight__init__, FStraight__init__⟩ := c.def_ 23 (d := dStraight__init__) rfl
  obtain ⟨fdStraight__call__, FStraight__call__⟩ := c.def_ 24 (d := dStraight__call__) rfl
  obtain ⟨fdStraight__eq__, FStraight__eq__⟩ := c.def_ 25 (d := dStraight__eq__) rfl
  obtain ⟨fdStraight__add__, FStraight__add__⟩ := c.def_ 26 (d := dStraight__add__) rfl
  obtain ⟨fdStraight__radd__, FStraight__radd__⟩ := c.def_ 27 (d := dStraight__radd__) rfl
  obtain ⟨fdStraight__sub__, FStraight__sub__⟩ := c.def_ 28 (d := dStraight__sub__) rfl
  obtain ⟨fdStraight__rsub__, FStraight__rsub__⟩ := c.def_ 29 (d := dStraight__rsub__) rfl
  obtain ⟨fdStraight__neg__, FStraight__neg__⟩ := c.def_ 30 (d := dStraight__neg__) rfl
  obtain ⟨fdStraight__mul__, FStraight__mul__⟩ := c.def_ 31 (d := dStraight__mul__) rfl
  obtain ⟨fdStraight__rmul__, FStraight__rmul__⟩ := c.def_ 32 (d := dStraight__rmul__) rfl
  obtain ⟨fdStraightreplaced, FStraightreplaced⟩ := c.def_ 33 (d := dStraightreplaced) rfl
  obtain ⟨fdAtLeast__init__, FAtLeast__init__⟩ := c.def_ 34 (d := dAtLeast__init__) rfl
  obtain ⟨fdAtLeastholds, FAtLeastholds⟩ := c.def_ 35 (d := dAtLeastholds) rfl
  obtain ⟨fdAtLeastreplaced, FAtLeastreplaced⟩ := c.def_ 36 (d := dAtLeastreplaced) rfl
  obtain ⟨fdRest__init__, FRest__init__⟩ := c.def_ 37 (d := dRest__init__) rfl
  obtain ⟨fdRestholds, FRestholds⟩ := c.def_ 38 (d := dRestholds) rfl
  obtain ⟨fdRestreplaced, FRestreplaced⟩ := c.def_ 39 (d := dRestreplaced) rfl
  have e := hfa.symm.trans (gl "law" (by decide +kernel))
  cases e
  refine ⟨fd_law, fun s v => FunD.bindsA (ps := ["_law_script"]) F_law (fun _ _ _ _ _ _ us hl => match us, hl with | [_], _ => rfl) s [v] rfl, fun base _ _ => ?_⟩
  have D_is_integer : Dn P w K mg base 1 "is_integer" ["value"] (spIsInt K) := ⟨_, _, ok_isInt F_is_integer T.toStTx, gl _ (by decide +kernel), F_is_integer.kp, FunD.bindsN (ps := ["value"]) F_is_integer fun _ _ _ _ _ _ us hl => match us, hl with | [_], _ => rfl⟩
  have D_is_integer_from : Dn P w K mg base 2 "is_integer_from" ["value", "low", "high"] spIntFrom := ⟨_, _, ok_intFrom F_is_integer_from D_is_integer, gl _ (by decide +kernel), F_is_integer_from.kp, FunD.bindsN (ps := ["value", "low", "high"]) F_is_integer_from fun _ _ _ _ _ _ us hl => match us, hl with | [_, _, _], _ => rfl⟩
  have D_is_straight : Dn P w K mg base 2 "is_straight" ["value"] (spIsStr K) := ⟨_, _, ok_isStr F_is_straight T.toStTx D_is_integer, gl _ (by decide +kernel), F_is_straight.kp, FunD.bindsN (ps := ["value"]) F_is_straight fun _ _ _ _ _ _ us hl => match us, hl with | [_], _ => rfl⟩
  have M : MkS P w K mg base := mk_S T.toStTx FStraight__init__
  have D_straight_like : Dn P w K mg base 3 "straight_like" ["value"] (spLike K) := ⟨_, _, ok_like F_straight_like T.toStTx M, gl _ (by decide +kernel), F_straight_like.kp, FunD.bindsN (ps := ["value"]) F_straight_like fun _ _ _ _ _ _ us hl => match us, hl with | [_], _ => rfl⟩
  have D_value_of : Dn P w K mg base 1 "value_of" ["straight", "i", "n"] (spValW K) := ⟨_, _, ok_val F_value_of T.toStTx, gl _ (by decide +kernel), F_value_of.kp, FunD.bindsN (ps := ["straight", "i", "n"]) F_value_of fun _ _ _ _ _ _ us hl => match us, hl with | [_, _, _], _ => rfl⟩
  have D_added : Dn P w K mg base 3 "added" ["one", "other", "sign"] (spAdded K) := ⟨_, _, ok_added F_added T.toStTx M, gl _ (by decide +kernel), F_added.kp, FunD.bindsN (ps := ["one", "other", "sign"]) F_added fun _ _ _ _ _ _ us hl => match us, hl with | [_, _, _], _ => rfl⟩
  have D_replaced_straight : Dn P w K mg base 3 "replaced_straight" ["straight", "factor", "shift"] (spReplW K) := ⟨_, _, ok_repl F_replaced_straight T.toStTx M, gl _ (by decide +kernel), F_replaced_straight.kp, FunD.bindsN (ps := ["straight", "factor", "shift"]) F_replaced_straight fun _ _ _ _ _ _ us hl => match us, hl with | [_, _, _], _ => rfl⟩
  have OSE := om_SEq (P := P) (w := w) (base := base) FStraight__eq__ T.toStTx (me ("Straight", "__eq__") (by decide +kernel))
  have OSA := om_SAdd (P := P) (w := w) (base := base) FStraight__add__ T.toStTx (me ("Straight", "__add__") (by decide +kernel)) D_is_straight D_straight_like D_added
  have OSS := om_SSub (P := P) (w := w) (base := base) FStraight__sub__ T.toStTx (me ("Straight", "__sub__") (by decide +kernel)) D_is_straight D_straight_like D_added
  have ORA := om_Sradd (P := P) (w := w) (base := base) FStraight__radd__ T.toStTx (me ("Straight", "__radd__") (by decide +kernel)) D_is_straight D_straight_like D_added
  have ORS := om_Srsub (P := P) (w := w) (base := base) FStraight__rsub__ T.toStTx (me ("Straight", "__rsub__") (by decide +kernel)) D_is_straight D_straight_like D_added
  have OSN := om_SNeg (P := P) (w := w) (base := base) FStraight__neg__ T.toStTx M (me ("Straight", "__neg__") (by decide +kernel))
  have OSM := om_Smul (P := P) (w := w) (base := base) FStraight__mul__ T.toStTx M (me ("Straight", "__mul__") (by decide +kernel)) D_is_integer
  have OSR := om_Srmul (P := P) (w := w) (base := base) FStraight__rmul__ T.toStTx M (me ("Straight", "__rmul__") (by decide +kernel)) D_is_integer
  have MB : Mx P w K mg base "BadNumber" ["self", "what", "number"] ["what", "number"] := mxBadNumber EB FBadNumber__init__
  have MA : MkA P w K mg base := mk_A T.toCoTx M D_straight_like FAtLeast__init__
  have MR : MkR P w K mg base := mk_R T.toCoTx M MB D_straight_like D_is_integer_from FRest__init__
  have SMm : SM P w K mg base := {
    call := ⟨_, ok_SCall FStraight__call__ T.toStTx D_value_of, FStraight__call__.bindsN fun _ _ _ _ _ _ us hl => match us, hl with | [_, _, _], _ => rfl, ⟨(me ("Straight", "__call__") (by decide +kernel)).at_, (me ("Straight", "__call__") (by decide +kernel)).fn, fnIn_of FStraight__call__⟩⟩
    repl := ⟨_, ok_SRepl FStraightreplaced T.toStTx D_replaced_straight, FStraightreplaced.bindsN fun _ _ _ _ _ _ us hl => match us, hl with | [_, _, _], _ => rfl, (me ("Straight", "replaced") (by decide +kernel))⟩ }
  have C : CM P w K mg base := {
    ah := ⟨_, ok_AHolds FAtLeastholds T.toCoTx D_value_of, FAtLeastholds.bindsN fun _ _ _ _ _ _ us hl => match us, hl with | [_, _, _], _ => rfl, (me ("AtLeast", "holds") (by decide +kernel))⟩
    ar := ⟨_, ok_ARepl FAtLeastreplaced T.toCoTx MA D_replaced_straight, FAtLeastreplaced.bindsN fun _ _ _ _ _ _ us hl => match us, hl with | [_, _, _], _ => rfl, (me ("AtLeast", "replaced") (by decide +kernel))⟩
    rh := ⟨_, ok_RHolds FRestholds T.toCoTx D_value_of, FRestholds.bindsN fun _ _ _ _ _ _ us hl => match us, hl with | [_, _, _], _ => rfl, (me ("Rest", "holds") (by decide +kernel))⟩
    rr := ⟨_, ok_RRepl FRestreplaced T.toCoTx MR D_replaced_straight, FRestreplaced.bindsN fun _ _ _ _ _ _ us hl => match us, hl with | [_, _, _], _ => rfl, (me ("Rest", "replaced") (by decide +kernel))⟩ }
  have O : Ops P w K mg base := { sa := OSA, ra := ORA, ss := OSS, rs := ORS, sm := OSM, sr := OSR, sn := OSN, es := OSE, ia := op ("Straight", "add") (by decide +kernel), im := op ("Straight", "mul") (by decide +kernel), is_ := op ("Straight", "sub") (by decide +kernel), ne := NE, nS := nSS, ni := nSi, nt := nSt, nu := nSu, kt := ktS, ku := kuS }
  have D__law_pen : Dn P w K mg base 1 "_law_pen" ["_law_script"] (spPen K) := ⟨_, _, ok_pen F__law_pen T.bt, gl _ (by decide +kernel), F__law_pen.kp, FunD.bindsN (ps := ["_law_script"]) F__law_pen fun _ _ _ _ _ _ us hl => match us, hl with | [_], _ => rfl⟩
  have D__law_draw : Dn P w K mg base 1 "_law_draw" ["_law_pen_here", "_law_many"] spDraw := ⟨_, _, ok_draw F__law_draw T.bt, gl _ (by decide +kernel), F__law_draw.kp, FunD.bindsN (ps := ["_law_pen_here", "_law_many"]) F__law_draw fun _ _ _ _ _ _ us hl => match us, hl with | [_, _], _ => rfl⟩
  have D__law_big : Dn P w K mg base 2 "_law_big" ["_law_pen_here", "_law_many"] spBig := ⟨_, _, ok_big F__law_big T D__law_draw, gl _ (by decide +kernel), F__law_big.kp, FunD.bindsN (ps := ["_law_pen_here", "_law_many"]) F__law_big fun _ _ _ _ _ _ us hl => match us, hl with | [_, _], _ => rfl⟩
  have D__law_between : Dn P w K mg base 2 "_law_between" ["_law_pen_here", "_law_least", "_law_most"] spBetween := ⟨_, _, ok_between F__law_between T D__law_draw, gl _ (by decide +kernel), F__law_between.kp, FunD.bindsN (ps := ["_law_pen_here", "_law_least", "_law_most"]) F__law_between fun _ _ _ _ _ _ us hl => match us, hl with | [_, _, _], _ => rfl⟩
  have D__law_far : Dn P w K mg base 3 "_law_far" ["_law_pen_here"] spFar := ⟨_, _, ok_far F__law_far T D__law_draw D__law_big, gl _ (by decide +kernel), F__law_far.kp, FunD.bindsN (ps := ["_law_pen_here"]) F__law_far fun _ _ _ _ _ _ us hl => match us, hl with | [_], _ => rfl⟩
  have D__law_divisor : Dn P w K mg base 1 "_law_divisor" ["_law_a", "_law_b"] spDivisor := ⟨_, _, ok_divisor F__law_divisor T, gl _ (by decide +kernel), F__law_divisor.kp, FunD.bindsN (ps := ["_law_a", "_law_b"]) F__law_divisor fun _ _ _ _ _ _ us hl => match us, hl with | [_, _], _ => rfl⟩
  have D__law_guard_due : Dn P w K mg base 2 "_law_guard_due" ["_law_guard"] spDueG := ⟨_, _, ok_dueG F__law_guard_due T D__law_divisor, gl _ (by decide +kernel), F__law_guard_due.kp, FunD.bindsN (ps := ["_law_guard"]) F__law_guard_due fun _ _ _ _ _ _ us hl => match us, hl with | [_], _ => rfl⟩
  have D__law_value : Dn P w K mg base 1 "_law_value" ["_law_row", "_law_i", "_law_n"] spValue := ⟨_, _, ok_value F__law_value T, gl _ (by decide +kernel), F__law_value.kp, FunD.bindsN (ps := ["_law_row", "_law_i", "_law_n"]) F__law_value fun _ _ _ _ _ _ us hl => match us, hl with | [_, _, _], _ => rfl⟩
  have D__law_guard_holds : Dn P w K mg base 2 "_law_guard_holds" ["_law_guard", "_law_i", "_law_n"] spGuardH := ⟨_, _, ok_guardH F__law_guard_holds T D__law_value, gl _ (by decide +kernel), F__law_guard_holds.kp, FunD.bindsN (ps := ["_law_guard", "_law_i", "_law_n"]) F__law_guard_holds fun _ _ _ _ _ _ us hl => match us, hl with | [_, _, _], _ => rfl⟩
  have D__law_three : Dn P w K mg base 4 "_law_three" ["_law_pen_here"] spThree := ⟨_, _, ok_three F__law_three T D__law_draw D__law_between D__law_far, gl _ (by decide +kernel), F__law_three.kp, FunD.bindsN (ps := ["_law_pen_here"]) F__law_three fun _ _ _ _ _ _ us hl => match us, hl with | [_], _ => rfl⟩
  have D__law_is_sum : Dn P w K mg base 3 "_law_is_sum" ["_law_found", "_law_due", "_law_i", "_law_n"] (spIsSum K) := ⟨_, _, ok_isSum F__law_is_sum T SMm, gl _ (by decide +kernel), F__law_is_sum.kp, FunD.bindsN (ps := ["_law_found", "_law_due", "_law_i", "_law_n"]) F__law_is_sum fun _ _ _ _ _ _ us hl => match us, hl with | [_, _, _, _], _ => rfl⟩
  have D__law_pair_right : Dn P w K mg base 6 "_law_pair_right" ["_law_pen_here"] spPair := ⟨_, _, ok_pair F__law_pair_right T M SMm O D__law_draw D__law_between D__law_far D__law_three D__law_is_sum, gl _ (by decide +kernel), F__law_pair_right.kp, FunD.bindsN (ps := ["_law_pen_here"]) F__law_pair_right fun _ _ _ _ _ _ us hl => match us, hl with | [_], _ => rfl⟩
  have D__law_guard_right : Dn P w K mg base 8 "_law_guard_right" ["_law_pen_here"] spPair := ⟨_, _, ok_guardR F__law_guard_right T M MA MR C (kit_ty (by decide +kernel)) D__law_draw D__law_between D__law_far D__law_guard_due D__law_guard_holds, gl _ (by decide +kernel), F__law_guard_right.kp, FunD.bindsN (ps := ["_law_pen_here"]) F__law_guard_right fun _ _ _ _ _ _ us hl => match us, hl with | [_], _ => rfl⟩
  have D__law_refused_rest : Dn P w K mg base 7 "_law_refused_rest" ["_law_modulus", "_law_rest"] spRefusedR := ⟨_, _, ok_refusedR F__law_refused_rest T M MR EB ex, gl _ (by decide +kernel), F__law_refused_rest.kp, FunD.bindsN (ps := ["_law_modulus", "_law_rest"]) F__law_refused_rest fun _ _ _ _ _ _ us hl => match us, hl with | [_, _], _ => rfl⟩
  exact ok_law F_law T D__law_pen D__law_draw D__law_pair_right D__law_guard_right D__law_refused_rest
end K21
open PySem PySem.W PySem.Calls PyProof.Rows
theorem PySem.Challenge.cw_loopsize_k21_sums_and_conditions_holds : PySem.Challenge.rw_loopsize_k21_sums_and_conditions.Holds := by
  w_on; o_law
  refine HandSHeadRun.head_imp (r := OpenLaw.row PySem.Challenge.rw_loopsize_k21_sums_and_conditions) (q := view (OpenLaw.row PySem.Challenge.rw_loopsize_k21_sums_and_conditions).prog [0, 34]) (H := K21.hk) (ob := K21.ob) (M := 60000) (loose := K21.names) (d := HandSHeadRun.topDef (OpenLaw.row PySem.Challenge.rw_loopsize_k21_sums_and_conditions).prog 34) (kwd := []) K21.ob_eq
    K21.run (by kernel_rfl) (by kernel_rfl) (by kernel_rfl) (by rfl) (by first | assumption | decide +kernel) (by decide +kernel) ⟨rfl, rfl, rfl, rfl, rfl, by decide +kernel⟩ ?hw ?hc
  case hw => w_witness2
  case hc =>
    refine L2.walk_ofE (l := PySem.Challenge.rw_loopsize_k21_sums_and_conditions) (n := 63) (k := 9) (x := "_law_script") (CX := L2.CX0) rfl (by decide) (by kernel_rfl) ⟨rfl, by decide, by decide⟩ ?F (fun _ _ _ _ z => z)
    intro w mg fa h Y G hmg0
    obtain ⟨K, KX, c⟩ := Y
    have hmg : mg ("law" : PySem.Str) = some (.ref fa) := by
      have e : (HandSHeadRun.topDef (OpenLaw.row PySem.Challenge.rw_loopsize_k21_sums_and_conditions).prog 34).name = ("law" : PySem.Str) := by kernel_rfl
      rw [← e]
      exact hmg0
    obtain ⟨fd, hb, hF⟩ := K21.facts (P := (PySem.Challenge.rw_loopsize_k21_sums_and_conditions).prog) (w := w) KX G hmg c
    exact ⟨K, fd, K21.spLaw K, KX, hb, fun H a ns hl _ hS => ⟨a, ns, rfl, hS, hl, fun _ => rfl⟩, hF⟩

