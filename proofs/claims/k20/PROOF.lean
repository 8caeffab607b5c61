import PyProof.Rows.All
import Wide.All
import OpenK.AllK
import Wide.FinOn
import KE.KExcIs
import HandS.ForMost
import HandS.Exc
import HandS.ExcInit
import HandS.ExcOwn
import HandS.ExcValue
import HandS.ExcField
import HandS.ExcIs
import HandS.IsInst
import HandS.WordsExc
import HandS.Defaults
import HandS.HeadHook1
import HandS.HeadHook2
import HandS.Head0
import HandS.Head1
import HandS.Head2
import HandS.HeadEnd
import KE.KOpsOwn
import PyProof.ListMulRight
import PyProof.FactsAll.int_3
import PyProof.FactsAll.int_5
import HandS.Star
import HandS.Gcd
import HandS.Wide
import HandS.Style
import HandS.Head3
import PySem.Challenge.RW_loopsize_k20_places_in_least_form
set_option Elab.async false
set_option linter.all false
set_option maxRecDepth 100000
set_option maxHeartbeats 4000000
namespace Z
open PySem PySem.Spec PyProof.Rows L2
section
variable {X : Cx} {e : Expr} {es : List Expr} {te : TE} {ta : TA} {p pos : Pos}
/-- C(e, ..), an own exception class with its own __init__, as a value -/
def tMkE (C : Addr) (sp : Sp) (ta : TA) : TE := fun σ H Q => ta σ H fun vs H1 => vs.length ≤ 1000 ∧ ∀ a, H1 a = none →
  sp (.ref a :: vs) (upd H1 a (exo a C none)) (fun v H2 => v = .non ∧ Q (.ref a) H2) (fun _ _ _ => False)
theorem pe_mkE {CX : CXT} {x : Str} {C fI : Addr} {k : Nat} {fd : FuncData} {ps : List Str} {sp : Sp} (T : OexC X.K C) (iC : PySem.W.findIn X.K (.ref C) "__init__" = some (some (.ref fI))) (tI : PySem.W.typeIn X.K (.ref fI) = some (.type "function"))
    (F1 : FnOk X.prog X.w X.K X.mg X.base CX k fI fd ps sp) (hr : Room (k + 1) X.A) (hb : Binds X.K fd ps []) (hx : Passes CX X (fun _ _ _ => False)) (hg : Gl X x) (hm : X.mg x = some (.ref C)) (ha : PA X (e :: es) ta)
    (hdb : (x == ("__debug__" : Str)) = false := by decide) (he : starEach (e :: es) X.env = (false, eval e X.env) :: starEach es X.env := by rfl) (hpl : (backTo pos (starEach es X.env)).any (·.1) = false := by rfl) :
    PE X (.Call (.Name x p) (e :: es) [] pos) (tMkE C sp ta) := by
  refine ⟨fun pins s σ H Q I h => ?_⟩
  obtain ⟨nm, q, N, bs, bm, sn, sub, ab, col, dd, k0, k1, k2, k3, k5, hC, hbm⟩ := T.cls
  refine wpAny_Call_Name_kw (ld_glob I hg hm ?_ hdb)
  refine PySem.W.callWith_K (h₀ := X.base) I.ok.mod.kin T.kC (thn (ha.run pos pins s σ H _ I h) fun us s1 ⟨vs, H1, I1, r1, hz, q1⟩ => ⟨I1.kIn, ?_⟩) he hpl
  show wpAny _ _ (call (.ref C) us) _ _ _
  obtain ⟨hp, g, dr, tk, os⟩ := s1
  have hsz : hp.objs.size ≤ hp.objs.size + 1 := Nat.le_succ _
  have hn : H1 (hp.objs.size + 1) = none := I1.hok.fresh hsz
  have hq := q1 (hp.objs.size + 1) hn
  have kk : ∀ b o, hp.get? b = some o → ((hp.push (PySem.W.kdv_tup us)).push (PySem.HandSPX.excO C hp.objs.size)).get? b = some o := fun b o e => Heap.get?_push_of_some _ (Heap.get?_push_of_some _ e)
  have hget : ((hp.push (PySem.W.kdv_tup us)).push (PySem.HandSPX.excO C hp.objs.size)).get? (hp.objs.size + 1) = some (PySem.HandSPX.excO C hp.objs.size) := by heap_get
  have I2 : Inv X pins σ (upd H1 (hp.objs.size + 1) (exo (hp.objs.size + 1) C none)) ⟨(hp.push (PySem.W.kdv_tup us)).push (PySem.HandSPX.excO C hp.objs.size), g, dr, tk, os⟩ :=
    I1.laid (t' := tk) (a := hp.objs.size + 1) (o := exo (hp.objs.size + 1) C none) (h' := (hp.push (PySem.W.kdv_tup us)).push (PySem.HandSPX.excO C hp.objs.size)) kk hsz (exo_ok hget)
  have r2 : Vals (V.ref (hp.objs.size + 1) :: vs) (Value.ref (hp.objs.size + 1) :: us) := .cons rfl r1
  have hl : (Value.ref (hp.objs.size + 1) :: us ++ []).length = ps.length := by
    have e := r2.length
    rw [F1.len _ _ _ _ hq] at e
    rw [List.append_nil]
    exact e.symm
  have hb2 : BindsTo ⟨(hp.push (PySem.W.kdv_tup us)).push (PySem.HandSPX.excO C hp.objs.size), g, dr, tk, os⟩ fd ⟨Value.ref (hp.objs.size + 1) :: us, []⟩ (ps.zip (Value.ref (hp.objs.size + 1) :: us)) := by
    have z := hb ⟨(hp.push (PySem.W.kdv_tup us)).push (PySem.HandSPX.excO C hp.objs.size), g, dr, tk, os⟩ (Value.ref (hp.objs.size + 1) :: us) I2.kIn hl
    rw [List.append_nil] at z
    exact z
  have hus : us.length ≤ sizeLine := by
    rw [← Paired.length r1, sizeLine_eq]
    omega
  refine wpAny_call (PySem.HandSPX.call_own F.excBase_ValueError (fun Y => PySem.HandSPX.refsVE_contains Y bm hbm) (I1.kIn _ _ hC) (PySem.W.looks_findIn I1.kIn iC) (fun self => PySem.W.bind_fn I1.kIn self tI) hus
    (codeAny_mono (F1.run _ X.stack _ _ ⟨Value.ref (hp.objs.size + 1) :: us, []⟩ (Value.ref (hp.objs.size + 1) :: us) _ _ (fun _ _ _ => False) (hr.make C us []) (I2.env0.make C us []) hb2 r2 hq) fun r s' hq' => ?_))
  cases r with
  | error er => exact hx pins σ _ _ er s' I2 hq'
  | ok fl =>
    cases fl with
    | ret u =>
      obtain ⟨v, H', I3, rv, ev, q3⟩ := I2.after hq'
      subst ev
      exact ⟨rv, ⟨V.ref (hp.objs.size + 1), H', I3, rfl, q3⟩⟩
    | next => exact False.elim hq'
    | brk => exact False.elim hq'
    | cont => exact False.elim hq'
/-- X(), an own exception class without own __init__, as a value -/
theorem pe_exc0 {C : Addr} {bmB : List Value} {B newId initId : String} {x : Str} (F : ExcBaseFacts B newId initId bmB) (q : PySem.W.excIn X.K C bmB newId = true) (gC : X.mg x = some (.ref C)) (kC : PySem.W.keepIn X.K (.ref C) = true) (hg : Gl X x)
    (hdb : (x == ("__debug__" : Str)) = false := by decide) :
    PE X (.Call (.Name x p) [] [] pos) (fun σ H Q => ∀ a, H a = none → Q (.ref a) (upd H a (ExO (.ref C) a))) := by
  refine ⟨fun pins s σ H Q I h => ?_⟩
  refine wpAny_Call_Name_kw (ld_glob I hg gC ?_ hdb)
  refine PySem.W.callWith_K0 I.kIn kC ?_
  show wpAny _ _ (call (.ref C) []) _ _ _
  obtain ⟨bm, N, nm, qn, bs, hdct, sn, sub, ab, col, dd, k0, k1, k2, k3, k5, mN, hC, hN, hni, T⟩ := exc_obj I.kIn q
  refine wpAny_call_exc_subT F T hC hN hni (fun h' a hm => ?_) (by show 0 ≤ sizeLine; exact Nat.zero_le _)
  have hn : H a = none := I.hok.gone hm.new
  obtain ⟨t, ht, _, _⟩ := hm.there
  exact ⟨.ref a, upd H a (ExO (.ref C) a), I.laidN hm.keeps hm.new hn (exO_ok ht ⟨rfl, rfl⟩ rfl rfl rfl (show 4 < 6 by decide)), rfl, h a hn⟩
/-- e.f, e an exception object with fields, in ordinary code -/
def tXg (K : PySem.W.Frag) (f : Str) (te : TE) : TE := fun σ H Q => te σ H fun x H1 => ∃ (a C d : Addr) (fs : List (Str × V)) (v : V), x = .ref a ∧ H1 a = some (exo a C (some d)) ∧ H1 d = some (exd d fs) ∧ XfC K C ∧
  PySem.W.findIn K (.ref C) f = some none ∧ fs.lookup f = some v ∧ Q v H1
theorem pe_xg {n : Str} (he : PE X e te) (hb : attributeBase e n X.env (eval e X.env) = eval e X.env := by rfl) :
    PE X (.Attribute e n pos) (tXg X.K n te) := by
  refine ⟨fun pins s σ H Q I h => ?_⟩
  refine attr_of hb (thn (he.run pins s σ H _ I h) fun u s1 hh => ?_)
  obtain ⟨x, H1, I1, rx, a, C, d, fs, v, ex, ea, ed, T, hno, l, q⟩ := hh
  subst ex
  obtain rfl : u = Value.ref a := rx
  obtain ⟨t1, ho⟩ := exo_at I1.hok ea
  obtain ⟨mA, hns, hr⟩ := exd_at I1.hok ed
  obtain ⟨od, hod, hl⟩ := lookIn_ns hns
  obtain ⟨u, hu, ru⟩ := RelO.some_of (v := v) (o := mA n) (by rw [← l]; exact hr n)
  have J : PySem.W.InstAt s1.heap a { cls := .ref C, dict := some d, data := .fields #[.ref t1, .none, .none, .none, .bool false, .none] } C (some od) := ⟨ho, rfl, rfl, hod⟩
  exact HandSPX.exc_get I1.kIn J T.ga T.gg T.exC (PySem.W.findObj_own T.hdC hno rfl (by rw [hl, hu])) (handed_of ru) ⟨v, H1, I1.tok _, ru, q⟩
/-- an exception object of the class at C stands at a -/
def ExAt (H : Hp) (a C : Addr) : Prop := (∃ d fs, H a = some (exo a C (some d)) ∧ H d = some (exd d fs)) ∨ H a = some (ExO (.ref C) a)
def rIsX (K : PySem.W.Frag) : List V → Hp → VK → Prop := fun xs H Q => ∃ (a C : Addr) (c : V) (u : Value) (b : Bool), xs = [.ref a, c] ∧ ClsV c u ∧ ExAt H a C ∧ ExcC K C ∧ PySem.W.kitOne K (.ref C) u = some b ∧ Q (.bl b) H
theorem call_isX : CallR X (.builtin "isinstance") (rIsX X.K) := by
  intro pins s σ H xs us Q I r h
  obtain ⟨a, C, c, u, b, rfl, k, hat, T, e, q⟩ := h
  obtain ⟨u1, u2, rfl, r1, r2⟩ := vals2 r
  cases (show u1 = Value.ref a from r1)
  have e2 := k.eq r2
  subst e2
  have hcl : (PySem.W.clsIn X.K C).isSome = true := by
    obtain ⟨cd, hc, _⟩ := PySem.W.any_some T.hd
    rw [hc]
    rfl
  obtain ⟨ox, od, J⟩ : ∃ ox od, PySem.W.InstAt s.heap a ox C od := by
    rcases hat with ⟨d, fs, ea, ed⟩ | ea
    · obtain ⟨t1, ho⟩ := exo_at I.hok ea
      obtain ⟨mA, hns, hr⟩ := exd_at I.hok ed
      obtain ⟨od, hod, hl⟩ := lookIn_ns hns
      exact ⟨{ cls := .ref C, dict := some d, data := .fields #[.ref t1, .none, .none, .none, .bool false, .none] }, some od, ⟨ho, rfl, rfl, hod⟩⟩
    · have x : ObjOk X.prog X.w H s.heap a (ExO (.ref C) a) := I.hok a _ ea
      obtain ⟨⟨oe, vs, ho, hz, hd, _⟩, _⟩ := x
      obtain ⟨oc, od, odt, osl⟩ := oe
      obtain ⟨h1, h2⟩ := hz
      dsimp only at h1 h2 hd
      subst h1 h2 hd
      exact ⟨_, none, ⟨ho, rfl, rfl, trivial⟩⟩
  exact PySem.W.kia_one (PySem.W.kitx_exc hcl T.hg T.hk T.hs T.ha T.hn T.ht T.hm) I.kIn J e (fun z => nomatch z) fun tk => ⟨.bl b, H, I.tok tk, rfl, q⟩
end
end Z

set_option maxHeartbeats 4000000
namespace Z
open PySem PySem.Spec PyProof.Rows L2
/-! ### facts of the head -/
abbrev FaK : Type := PySem.W.Frag → Bool
def obsX (fa : List FaK) (fn : List He.DefD) (K : PySem.W.Frag) : He.AlD := ((fa.all fun f => f K) && fn.all fun d => d.ok K, fn.map fun d => He.fnW K d.at_)
def SaysX (fa : List FaK) (fn : List He.DefD) (K : PySem.W.Frag) : Prop := obsX fa fn K = He.valD fn
def obsXG (n : Nat) (fa : List FaK) (fn : List He.DefD) (g : Addr → Option Obj) : He.AlD := obsX fa fn (He.frG g (He.asD g n))
def hookX (n : Nat) (fa : List FaK) (fn : List He.DefD) : PySem.W.Hook where
  α := He.AlD
  obs := fun s => obsXG n fa fn s.heap.get?
  val := fun _ => He.valD fn
  says := fun _ h => ∃ K : PySem.W.Frag, K.In h ∧ SaysX fa fn K
  of := fun _ _ e => ⟨_, He.frG_in, e⟩
  keeps := fun _ _ _ ⟨K, hK, c⟩ k => ⟨K, PySem.W.Frag.In.keeps hK k, c⟩
theorem obsXG_eq {n : Nat} {fa : List FaK} {fn : List He.DefD} {g : Addr → Option Obj} {s : Shared} (h : ∀ a, g a = s.heap.get? a) : obsXG n fa fn g = (hookX n fa fn).obs s := by
  have e : g = s.heap.get? := funext h
  rw [e] <;> rfl
section
variable {fa : List FaK} {fn : List He.DefD} {K : PySem.W.Frag}
theorem SaysX.fact (c : SaysX fa fn K) (i : Nat) {f : FaK} (h : fa[i]? = some f := by rfl) : f K = true := by
  have c1 := (He.ba (show ((fa.all fun f => f K) && fn.all fun d => d.ok K) = true from congrArg (fun z : He.AlD => z.1) c)).1
  exact List.all_eq_true.mp c1 f (List.mem_of_getElem? h)
theorem SaysX.def_ (c : SaysX fa fn K) (i : Nat) {d : He.DefD} (h : fn[i]? = some d := by rfl) : ∃ fd, FunD K d.name d.qual d.params d.body d.scope (d.dvs K) (d.kws K) (He.fAd K d.at_) fd := by
  have c2 := (He.ba (show ((fa.all fun f => f K) && fn.all fun d => d.ok K) = true from congrArg (fun z : He.AlD => z.1) c)).2
  have e : fn.map (fun d => He.fnW K d.at_) = fn.map He.DefD.val := congrArg (fun z : He.AlD => z.2) c
  have e2 : (fn.map fun d => He.fnW K d.at_)[i]? = (fn.map He.DefD.val)[i]? := by rw [e]
  rw [List.getElem?_map, List.getElem?_map, h] at e2
  exact He.DefD.funD (Option.some.inj e2) (List.all_eq_true.mp c2 d (List.mem_of_getElem? h))
end
/-! ### exception classes -/
def oexB (K : PySem.W.Frag) (C : Addr) : Bool := match K.lookup C with
  | some ⟨.type t, _, .cls cd, sl⟩ => decide (t = "type") && (match cd.mro, sl.toList with
    | .ref C' :: bm, [_, _, _, _, some (.builtin n), _] => decide (C' = C) && (decide (n = "ValueError.__new__") && (!cd.hasDel && (cd.hasDict && PySem.HandSPX.refsVE bm)))
    | _, _ => false)
  | _ => false
theorem oexB_ok {K : PySem.W.Frag} {C : Addr} (q : oexB K C = true) : ∃ nm q N bs bm sn sub ab col dd k0 k1 k2 k3 k5, K.lookup C = some (excClassObj nm q C N bs bm true sn sub ab col dd k0 k1 k2 k3 k5 "ValueError.__new__") ∧ PySem.HandSPX.refsVE bm = true := by
  unfold oexB at q
  split at q
  · rename_i t dd cd sl ho
    split at q
    · rename_i C' bm k0 k1 k2 k3 n k5 hm hs
      obtain ⟨q0, q⟩ := He.ba q
      obtain ⟨q1, q⟩ := He.ba q
      obtain ⟨q2, q⟩ := He.ba q
      obtain ⟨q3, q⟩ := He.ba q
      obtain ⟨q4, q5⟩ := He.ba q
      have e0 := of_decide_eq_true q0
      have e1 := of_decide_eq_true q1
      have e2 := of_decide_eq_true q2
      obtain ⟨nm, bs, mro, ns, qn, hd, sn, sub, ab, col, del⟩ := cd
      dsimp only at hm q3 q4
      have e3 : del = false := by
        cases del
        · rfl
        · cases q3
      subst hm e3 q4
      have hsl : sl = #[k0, k1, k2, k3, some (.builtin n), k5] := by
        obtain ⟨l⟩ := sl
        simp only at hs
        rw [hs]
      subst hsl
      rw [e0, e1, e2] at ho
      exact ⟨nm, qn, ns, bs, bm, sn, sub, ab, col, dd, k0, k1, k2, k3, k5, ho, q5⟩
    · obtain ⟨_, q⟩ := He.ba q
      cases q
  · cases q
/-- all that is asked of an exception class -/
def exkB (K : PySem.W.Frag) (C : Addr) : Bool :=
  He.eqO (PySem.W.findIn K (.ref C) "__setattr__") (some (some (.builtin "object.__setattr__"))) &&
  (decide (PySem.W.subIn K (.ref C) (.type "BaseException") = some true) &&
  (decide (PySem.W.typeIn K (.ref C) = some (.type "type")) &&
  (PySem.W.keepIn K (.ref C) &&
  (He.eqO (PySem.W.findIn K (.ref C) "__getattribute__") (some (some (.builtin "BaseException.__getattribute__"))) &&
  (He.eqO (PySem.W.findIn K (.ref C) "__getattr__") (some none) &&
  (PySem.W.hasDictIn K C &&
  (He.eqO (PySem.W.findIn K (.ref C) "__class__") (some (some (.builtin "object.__class__"))) &&
  (He.eqO (PySem.W.specialIn K (.builtin "object.__class__") "__get__") (some (some (.builtin "getset_descriptor.__get__"))) &&
  (decide (PySem.W.takesIn K (.builtin "object.__class__") = some true) &&
  decide (PySem.W.mroIn K C (.type "object") = some true))))))))))
structure Exk (K : PySem.W.Frag) (C : Addr) : Prop where
  sa : PySem.W.findIn K (.ref C) "__setattr__" = some (some (.builtin "object.__setattr__"))
  exC : PySem.W.subIn K (.ref C) (.type "BaseException") = some true
  tyC : PySem.W.typeIn K (.ref C) = some (.type "type")
  kC : PySem.W.keepIn K (.ref C) = true
  xf : XfC K C
  ec : ExcC K C
theorem exkB_ok {K : PySem.W.Frag} {C : Addr} (q : exkB K C = true) : Exk K C := by
  unfold exkB at q
  obtain ⟨h1, q⟩ := He.ba q
  obtain ⟨h2, q⟩ := He.ba q
  obtain ⟨h3, q⟩ := He.ba q
  obtain ⟨h4, q⟩ := He.ba q
  obtain ⟨h5, q⟩ := He.ba q
  obtain ⟨h6, q⟩ := He.ba q
  obtain ⟨h7, q⟩ := He.ba q
  obtain ⟨h8, q⟩ := He.ba q
  obtain ⟨h9, q⟩ := He.ba q
  obtain ⟨h10, h11⟩ := He.ba q
  have e2 := of_decide_eq_true h2
  exact ⟨He.eqO_ok h1, e2, of_decide_eq_true h3, h4, ⟨He.eqO_ok h5, He.eqO_ok h6, e2, h7⟩, ⟨He.eqO_ok h5, He.eqO_ok h6, e2, h7, He.eqO_ok h8, He.eqO_ok h9, of_decide_eq_true h10, of_decide_eq_true h11⟩⟩
theorem oex_of {K : PySem.W.Frag} {C : Addr} (q : oexB K C = true) (e : Exk K C) : OexC K C := ⟨oexB_ok q, e.sa, e.exC, e.tyC, e.kC⟩
/-! ### a global def that may be called -/
def Dn (P : Program) (w : World) (K : PySem.W.Frag) (mg : Str → Option Value) (base : Heap) (j : Nat) (x : Str) (ps : List Str) (sp : Sp) : Prop :=
  ∃ (f : Addr) (fd : FuncData), FnOk P w K mg base CX0 j f fd ps sp ∧ mg x = some (.ref f) ∧ PySem.W.keepIn K (.ref f) = true ∧ Binds K fd ps []
section
variable {X : Cx} {e : Expr} {es : List Expr} {t : TA} {p pos : Pos}
theorem pe_dn {k j : Nat} {x : Str} {ps : List Str} {sp : Sp} (D : Dn X.prog X.w X.K X.mg X.base j x ps sp) (hr : Room k X.A) (ha : PA X (e :: es) t) (hjk : j ≤ k := by decide) (hg : Gl X x := by rfl)
    (hdb : (x == ("__debug__" : Str)) = false := by decide) (he : starEach (e :: es) X.env = (false, eval e X.env) :: starEach es X.env := by rfl) (hpl : (backTo pos (starEach es X.env)).any (·.1) = false := by rfl) :
    PE X (.Call (.Name x p) (e :: es) [] pos) (tCall sp [] E0 t) := by
  obtain ⟨f, fd, G, hm, hk, hb⟩ := D
  exact pe_call G (hr.mono hjk) hg hm hk hb .nil pass0 ha hdb he hpl
end
end Z

set_option maxHeartbeats 4000000
namespace Z
open PySem PySem.Spec PyProof.Rows L2
/-! ### the pen -/
def penK (c : Addr) (a l : Int) : List (Key × V) := [(.inr "cells", .ref c), (.inr "at", .int a), (.inr "left", .int l)]
theorem key_ne {x y : Str} (h : ¬ x = y) : ¬ ((Sum.inr x : Key) = Sum.inr y) := fun q => h (Sum.inr.inj q)
theorem ca_ : ¬ (("cells" : Str) = "at") := by decide +kernel
theorem cl_ : ¬ (("cells" : Str) = "left") := by decide +kernel
theorem al_ : ¬ (("at" : Str) = "left") := by decide +kernel
theorem penK_cells (c : Addr) (a l : Int) : valV (penK c a l) (Sum.inr "cells" : Key) = some (.ref c) := valV_pos rfl
theorem penK_at (c : Addr) (a l : Int) : valV (penK c a l) (Sum.inr "at" : Key) = some (.int a) := by
  unfold penK
  rw [valV_neg (key_ne ca_)]
  exact valV_pos rfl
theorem penK_left (c : Addr) (a l : Int) : valV (penK c a l) (Sum.inr "left" : Key) = some (.int l) := by
  unfold penK
  rw [valV_neg (key_ne cl_), valV_neg (key_ne al_)]
  exact valV_pos rfl
theorem penK_put_at (c : Addr) (a l b : Int) : putK (penK c a l) (Sum.inr "at" : Key) (.int b) = penK c b l := by
  unfold putK
  rw [valV_any, penK_at, if_pos (show (some (V.int a)).isSome = true from rfl)]
  unfold penK
  simp only [List.map_cons, List.map_nil, if_neg (key_ne ca_), if_neg (key_ne (fun q => al_ q.symm)), if_true]
theorem penK_put_left (c : Addr) (a l b : Int) : putK (penK c a l) (Sum.inr "left" : Key) (.int b) = penK c a b := by
  unfold putK
  rw [valV_any, penK_left, if_pos (show (some (V.int l)).isSome = true from rfl)]
  unfold penK
  simp only [List.map_cons, List.map_nil, if_neg (key_ne cl_), if_neg (key_ne al_), if_true]
/-- a pen stands at p; at most t numbers were drawn -/
def Pen (H : Hp) (p : Addr) (t : Nat) : Prop := ∃ (c : Addr) (ns : List Int) (a l : Int), H p = some (.dK (penK c a l)) ∧ H c = some (.lst (ns.map V.int)) ∧ ns.length ≤ 63 ∧ 0 ≤ a ∧ a ≤ (t : Int) ∧ 0 ≤ l
/-- all but p is as it was -/
def Keep (p : Addr) (H H' : Hp) : Prop := ∀ a o, a ≠ p → H a = some o → H' a = some o
theorem Keep.refl (p : Addr) (H : Hp) : Keep p H H := fun _ _ _ h => h
theorem Keep.trans {p : Addr} {H H1 H2 : Hp} (a : Keep p H H1) (b : Keep p H1 H2) : Keep p H H2 := fun c o n h => b c o n (a c o n h)
theorem Keep.of {p : Addr} {H H' : Hp} (s : Same H H') : Keep p H H' := fun a o _ h => s a o h
theorem Keep.upd {p : Addr} {H H1 : Hp} (o : HO) (k : Keep p H H1) : Keep p H (upd H1 p o) := fun a u n h => by
  rw [upd_ne n]
  exact k a u n h
theorem Keep.new {p l : Addr} {H H1 : Hp} (o : HO) (k : Keep p H H1) (hl : H1 l = none) : Keep p H (L2.upd H1 l o) := fun a u n h => by
  have q := k a u n h
  rw [upd_ne (ne_of_none q hl)]
  exact q
theorem Same.new {l : Addr} {H H1 : Hp} (o : HO) (k : Same H H1) (hl : H1 l = none) : Same H (upd H1 l o) := fun a u h => by
  have q := k a u h
  rw [upd_ne (ne_of_none q hl)]
  exact q
theorem Pen.mono {H : Hp} {p : Addr} {t t' : Nat} (h : Pen H p t) (e : t ≤ t') : Pen H p t' := by
  obtain ⟨c, ns, a, l, h1, h2, h3, h4, h5, h6⟩ := h
  exact ⟨c, ns, a, l, h1, h2, h3, h4, by omega, h6⟩
/-- a pen is not touched where all stands -/
theorem Pen.same {H H' : Hp} {p : Addr} {t : Nat} (h : Pen H p t) (s : Same H H') : Pen H' p t := by
  obtain ⟨c, ns, a, l, h1, h2, h3⟩ := h
  exact ⟨c, ns, a, l, s _ _ h1, s _ _ h2, h3⟩
/-- what is no dict is not the pen -/
theorem Pen.ne {H : Hp} {p a : Addr} {t : Nat} {o : HO} (h : Pen H p t) (e : H a = some o) (d : ∀ kvs, o ≠ .dK kvs) : a ≠ p := by
  obtain ⟨c, ns, x, l, h1, _⟩ := h
  exact ne_of e h1 (d _)
def spPen (K : PySem.W.Frag) : Sp := fun vs H Q _ => ∃ (a : Addr) (ns : List Int), vs = [.ref a] ∧ SqL K H a (ns.map V.int) ∧ ns.length ≤ 63 ∧ ∀ H' p, Same H H' → H p = none → Pen H' p 0 → Q (.ref p) H'
def spDraw : Sp := fun vs H Q _ => ∃ (p : Addr) (m : Int) (t : Nat), vs = [.ref p, .int m] ∧ 0 < m ∧ m < 1073741824 ∧ t < 1000000000 ∧ Pen H p t ∧ ∀ H' (d : Int), 0 ≤ d → d < m → Pen H' p (t + 1) → Keep p H H' → Q (.int d) H'
def spPick : Sp := fun vs H Q _ => ∃ (p l : Addr) (xs : List V) (t : Nat), vs = [.ref p, .ref l] ∧ H l = some (.lst xs) ∧ 0 < xs.length ∧ xs.length < 1000 ∧ t < 1000000000 ∧ Pen H p t ∧
  ∀ H' (i : Nat) (v : V), xs[i]? = some v → Pen H' p (t + 1) → Keep p H H' → Q v H'
/-! ### small readings -/
theorem fmod_range {x m : Int} (h : 0 < m) : 0 ≤ x.fmod m ∧ x.fmod m < m := by
  rw [Int.fmod_eq_emod_of_nonneg _ (Int.le_of_lt h)]
  exact ⟨Int.emod_nonneg _ (by omega), Int.emod_lt_of_pos _ h⟩
theorem fdiv_nn {x m : Int} (hx : 0 ≤ x) (h : 0 < m) : 0 ≤ x.fdiv m := by
  rw [Int.fdiv_eq_ediv_of_nonneg _ (Int.le_of_lt h)]
  exact Int.ediv_nonneg hx (Int.le_of_lt h)
theorem mul_okf {x m : Int} (h : 0 < m) (hm : m ≤ 2147483648) : -(2 ^ 64) < x.fmod m ∧ x.fmod m < 2 ^ 64 := by
  have := fmod_range (x := x) h
  omega
theorem mul_okf1 {x m : Int} (h : 0 < m) (hm : m ≤ 2147483648) : -(2 ^ 64) < x.fmod m + 1 ∧ x.fmod m + 1 < 2 ^ 64 := by
  have := fmod_range (x := x) h
  omega
section
variable {H : Hp} {p c : Addr} {a l b : Int}
theorem pen_left (h : H p = some (.dK (penK c a l))) : DGet H p (.str "left") (some (.int l)) := by
  have z := DGet.k (k := (Sum.inr "left" : Key)) h
  rw [penK_left] at z
  exact z
theorem pen_at (h : H p = some (.dK (penK c a l))) : DGet H p (.str "at") (some (.int a)) := by
  have z := DGet.k (k := (Sum.inr "at" : Key)) h
  rw [penK_at] at z
  exact z
theorem pen_cells (h : H p = some (.dK (penK c a l))) : DGet H p (.str "cells") (some (.ref c)) := by
  have z := DGet.k (k := (Sum.inr "cells" : Key)) h
  rw [penK_cells] at z
  exact z
theorem pen_put_left (b : Int) (h : H p = some (.dK (penK c a l))) : DPut H p (.str "left") (.int b) (upd H p (.dK (penK c a b))) := by
  have z := DPut.k (k := (Sum.inr "left" : Key)) (v := .int b) h (show 3 < sizeLine by decide)
  rw [penK_put_left] at z
  exact z
theorem pen_put_at (b : Int) (h : H p = some (.dK (penK c a l))) : DPut H p (.str "at") (.int b) (upd H p (.dK (penK c b l))) := by
  have z := DPut.k (k := (Sum.inr "at" : Key)) (v := .int b) h (show 3 < sizeLine by decide)
  rw [penK_put_at] at z
  exact z
end
theorem lst_ne_dK {xs : List V} {kvs : List (Key × V)} : HO.lst xs ≠ .dK kvs := fun z => by cases z
/-- data: a list of ints -/
theorem dpAll_ints {K : PySem.W.Frag} {H : Hp} : ∀ ns : List Int, DpAll K H (ns.map V.int) (ns.map PyData.int)
  | [] => .nil
  | _ :: ns => .cons (.int _) (dpAll_ints ns)
theorem canLay_ints : ∀ ns : List Int, PyData.canLayAll0 (ns.map PyData.int) = true
  | [] => by simp [PyData.canLayAll0]
  | _ :: ns => by simp [PyData.canLayAll0, PyData.canLay0, canLay_ints ns]
theorem depth_ints : ∀ ns : List Int, PyData.depthAll (ns.map PyData.int) = 0
  | [] => by simp [PyData.depthAll]
  | _ :: ns => by simp [PyData.depthAll, PyData.depth, depth_ints ns]
theorem shaped_ints (ns : List Int) : SeqAt.shaped (.list (ns.map PyData.int)) = true := by
  simp [SeqAt.shaped, PyData.canLay0, canLay_ints, PyData.depth, depth_ints]
theorem shaped_nil : SeqAt.shaped (.list []) = true := shaped_ints []
theorem eqv_ints_nil (ns : List Int) : PyData.eqv (.list (ns.map PyData.int)) (.list []) = ns.isEmpty := by
  cases ns <;> simp [PyData.eqv, PyData.eqvAll]
theorem get_ints {ns : List Int} {i : Nat} (h : i < ns.length) : (ns.map V.int)[i]? = some (.int (ns[i]'h)) := by
  rw [List.getElem?_map, List.getElem?_eq_getElem h]
  rfl
end Z

set_option maxHeartbeats 4000000
namespace Z
open PySem PySem.W PySem.Calls PyProof.Rows
/-! ### operators of own classes -/
section
/-- an int's own operator does not take an instance -/
theorem mul_no (a : Int) (t : Tok) (l C dx : Addr) :
    Meets (Builtin.«int.__mul__» ⟨[.int a t, .ref l], []⟩) (fun _ R s => s.heap.get? l = some (instObj C dx) ∧ R (.ok (.ret Value.notImplemented)) s) :=
  .of_wp fun prog w A R s h => by
    obtain ⟨hp, g, d, tk, os⟩ := s
    obtain ⟨hl, h⟩ := h
    wp_walk
    exact ⟨_, rfl, h⟩
theorem add_no (a : Int) (t : Tok) (l C dx : Addr) :
    Meets (Builtin.«int.__add__» ⟨[.int a t, .ref l], []⟩) (fun _ R s => s.heap.get? l = some (instObj C dx) ∧ R (.ok (.ret Value.notImplemented)) s) :=
  .of_wp fun prog w A R s h => by
    obtain ⟨hp, g, d, tk, os⟩ := s
    obtain ⟨hl, h⟩ := h
    wp_walk
    exact ⟨_, rfl, h⟩
theorem sub_no (a : Int) (t : Tok) (l C dx : Addr) :
    Meets (Builtin.«int.__sub__» ⟨[.int a t, .ref l], []⟩) (fun _ R s => s.heap.get? l = some (instObj C dx) ∧ R (.ok (.ret Value.notImplemented)) s) :=
  .of_wp fun prog w A R s h => by
    obtain ⟨hp, g, d, tk, os⟩ := s
    obtain ⟨hl, h⟩ := h
    wp_walk
    exact ⟨_, rfl, h⟩
end
section
variable {prog : Program} {w : World} {A : Around} {E : Value → Shared → Prop} {s : Shared} {K : Frag} {x y C f : Addr} {ox oy : Obj} {od oe : Option Obj}
theorem own_binop {op : Operator} {Q : Value → Shared → Prop} (X : K.In s.heap) (I : InstAt s.heap x ox C od) (J : InstAt s.heap y oy C oe) (hc : selfFirst K C = true)
    (hs : findIn K (.ref C) (PySem.dunder op.info.2) = some (some (.ref f))) (hf : isFn K (.ref f) = true)
    (h : wpAny (model prog w) A (call (.ref f) [.ref x, .ref y]) (PySem.W.CmpBack Q) E s) : wpAny (model prog w) A (binaryOp op (.ref x) (.ref y)) Q E s := by
  obtain ⟨cd, rest, hcd, hm⟩ := ksp_first hc
  rcases hi : op.info with ⟨sym, nm'⟩
  rw [hi] at hs
  dsimp only at hs
  have one := ksp_try X I hs hf h
  obtain ⟨hh, g, d, tt, os⟩ := s
  have L1 : Looks (model prog w) hh (typeOf (.ref x)) (.ref C) := I.type
  have L2 : Looks (model prog w) hh (typeOf (.ref y)) (.ref C) := J.type
  have L3 : Looks (model prog w) hh (fillsNumberSlot (.ref C) nm') true := fills_K X hcd hm hs
  have heq : (Value.ref C == Value.ref C) = true := beq_self_eq_true _
  simp only [binaryOp, hi]
  refine wpAny_holding (wpAny_bind ?_)
  unfold binaryOp1
  refine wpAny_bind (L1.at (wpAny_bind (L2.at (wpAny_bind (L3.at ?_)))))
  simp only [heq, if_true]
  ksp_lk
  refine wpAny_mono one (fun r s' hr' => ?_) fun _ _ e => e
  obtain ⟨v, rfl, hq⟩ := hr'
  ksp_lk
  exact hq
theorem refl_binop {op : Operator} {a : Int} {t : Tok} {id : String} {Q : Value → Shared → Prop} (X : K.In s.heap) (I : InstAt s.heap x ox C od) (hc : selfFirst K C = true)
    (hs0 : findIn K (.ref C) (PySem.dunder op.info.2) = some (some (.ref y)))
    (hs : findIn K (.ref C) (dunderR op.info.2) = some (some (.ref f))) (hf : isFn K (.ref f) = true) (hsub : subIn K (.ref C) (.type "int") = some false)
    (hfill : fillsNumberSlot (.type "int") op.info.2 = pure true) (hl : Slot "int" (dunder op.info.2) id)
    (hno : wpAny (model prog w) A (call (.builtin id) [.int a t, .ref x]) (fun v s' => v = .notImplemented ∧ s' = s) E s)
    (h : wpAny (model prog w) A (call (.ref f) [.ref x, .int a t]) (PySem.W.CmpBack Q) E s) : wpAny (model prog w) A (binaryOp op (.int a t) (.ref x)) Q E s := by
  obtain ⟨cd, rest, hcd, hm⟩ := ksp_first hc
  rcases hi : op.info with ⟨sym, nm'⟩
  rw [hi] at hs hs0 hfill hl
  dsimp only at hs hs0 hfill hl
  have one := ksp_try X I hs hf h
  have two : wpAny (model prog w) A (tryMethod (.int a t) (dunder nm') (.ref x)) (fun r s' => r = none ∧ s' = s) E s :=
    wpAny_tryMethod_declines (s := s) (T := "int") rfl hl (wpAny_mono hno (fun v s' z => ⟨z.1, rfl, z.2⟩) fun _ _ e => e)
  obtain ⟨hh, g, d, tt, os⟩ := s
  have L1 : Looks (model prog w) hh (typeOf (.int a t)) (.type "int") := Looks.of_pure rfl
  have L2 : Looks (model prog w) hh (typeOf (.ref x)) (.ref C) := I.type
  have L3 : Looks (model prog w) hh (fillsNumberSlot (.ref C) nm') true := fills_K X hcd hm hs0
  have L4 : Looks (model prog w) hh (fillsNumberSlot (.type "int") nm') true := Looks.of_pure hfill
  have L5 : Looks (model prog w) hh (isSubtype (.ref C) (.type "int")) false := looks_subIn X hsub
  have L6 : Looks (model prog w) hh (numberSlotInPython (.type "int") nm') false := Looks.of_pure rfl
  have hne : (Value.type "int" == Value.ref C) = false := Bool.eq_false_iff.mpr fun q => by cases beq_iff_eq.mp q
  simp only [binaryOp, hi]
  refine wpAny_holding (wpAny_bind ?_)
  unfold binaryOp1
  refine wpAny_bind (L1.at (wpAny_bind (L2.at (wpAny_bind (L4.at ?_)))))
  simp only [hne, Bool.false_eq_true, if_false]
  ksp_lk
  refine wpAny_mono two (fun r s' hr' => ?_) fun _ _ e => e
  obtain ⟨rfl, rfl⟩ := hr'
  ksp_lk
  refine wpAny_mono one (fun r s' hr' => ?_) fun _ _ e => e
  obtain ⟨v, rfl, hq⟩ := hr'
  ksp_lk
  exact hq
end
end Z

set_option maxHeartbeats 4000000
namespace Z
open PySem PySem.Spec PyProof.Rows L2
section
variable {prog : Program} {w : World} {A : Around} {E : Value → Shared → Prop} {s : Shared} {x C dx : Addr}
theorem mul_no_call (a : Int) (t : Tok) (h : s.heap.get? x = some (PySem.W.instObj C dx)) : wpAny (model prog w) A (call (.builtin "int.__mul__") [.int a t, .ref x]) (fun v s' => v = .notImplemented ∧ s' = s) E s :=
  call_meets PySem.F.slot_int_mul (s := s) rfl PySem.F.entry_int_mul (PySem.F.args_int_mul_2 _ _) (mul_no a t x C dx) ⟨h, rfl, rfl⟩
end
/-- what is asked of a class whose instances stand beside ints -/
def opiB (K : PySem.W.Frag) (C : Addr) (nm : String) : Bool :=
  PySem.W.selfFirst K C && ((match PySem.W.findIn K (.ref C) (dunderR nm) with
    | some none => true
    | some (some (.ref _)) => true
    | _ => false) && ((PySem.W.findIn K (.type "int") (dunder nm)).isSome && ((PySem.W.findIn K (.type "int") (dunderR nm)).isSome && (decide (PySem.W.subIn K (.type "int") (.ref C) = some false) && decide (PySem.W.subIn K (.ref C) (.type "int") = some false)))))
structure OpI (K : PySem.W.Frag) (C : Addr) (nm : String) : Prop where
  sf : PySem.W.selfFirst K C = true
  rr : ∃ rc, PySem.W.findIn K (.ref C) (dunderR nm) = some rc ∧ (rc = none ∨ ∃ g : Addr, rc = some (.ref g))
  i1 : ∃ fo, PySem.W.findIn K (.type "int") (dunder nm) = some fo
  i2 : ∃ fo, PySem.W.findIn K (.type "int") (dunderR nm) = some fo
  s1 : PySem.W.subIn K (.type "int") (.ref C) = some false
  s2 : PySem.W.subIn K (.ref C) (.type "int") = some false
theorem opiB_ok {K : PySem.W.Frag} {C : Addr} {nm : String} (h : opiB K C nm = true) : OpI K C nm := by
  obtain ⟨h1, h⟩ := He.ba h
  obtain ⟨h2, h⟩ := He.ba h
  obtain ⟨h3, h⟩ := He.ba h
  obtain ⟨h4, h⟩ := He.ba h
  obtain ⟨h5, h6⟩ := He.ba h
  refine ⟨h1, ?_, Option.isSome_iff_exists.mp h3, Option.isSome_iff_exists.mp h4, of_decide_eq_true h5, of_decide_eq_true h6⟩
  cases e : PySem.W.findIn K (.ref C) (dunderR nm) with
  | none =>
    rw [e] at h2
    cases h2
  | some o =>
    rw [e] at h2
    cases o with
    | none => exact ⟨_, rfl, .inl rfl⟩
    | some v =>
      cases v with
      | ref g => exact ⟨_, rfl, .inr ⟨g, rfl⟩⟩
      | _ => cases h2
/-- a method that the class itself has, and its promise -/
def Om (P : Program) (w : World) (K : PySem.W.Frag) (mg : Str → Option Value) (base : Heap) (C : Addr) (k : Nat) (name : Str) (sp : Sp) : Prop :=
  ∃ (f : Addr) (fd : FuncData) (ps : List Str), FnOk P w K mg base CX0 k f fd ps sp ∧ PySem.W.findIn K (.ref C) name = some (some (.ref f)) ∧ PySem.W.isFn K (.ref f) = true ∧ Binds K fd ps []
theorem not_ni {v : V} {u : Value} (r : RelV v u) : u ≠ .notImplemented := by
  intro e
  subst e
  cases v with
  | non => cases r
  | bl b => cases r
  | int i => obtain ⟨_, r⟩ := r; cases r
  | str x => obtain ⟨_, r⟩ := r; cases r
  | byt b => obtain ⟨_, r⟩ := r; cases r
  | flt b => obtain ⟨_, r⟩ := r; cases r
  | ref a => cases r
  | ty n => cases r
section
variable {X : Cx}
theorem back_of {pins : List (Addr × Obj)} {σ : L2.St} {Q : VK} {u : Value} {s' : Shared} (h : EP X pins σ Q u s') : PySem.W.CmpBack (EP X pins σ Q) u s' := by
  obtain ⟨v, H', I, r, q⟩ := h
  have n := not_ni r
  cases u <;> first | exact absurd rfl n | exact ⟨v, H', I, r, q⟩
theorem om_run {pins : List (Addr × Obj)} {σ : L2.St} {H : Hp} {s : Shared} {Q : VK} {us : List Value} {vs : List V} {k : Nat} {f : Addr} {fd : FuncData} {ps : List Str} {sp : Sp} (F : FnOk X.prog X.w X.K X.mg X.base CX0 k f fd ps sp) (hb : Binds X.K fd ps []) (hr : Room k X.A)
    (I : L2.Inv X pins σ H s) (r : Vals vs us) (h : sp vs H Q E0) : wpAny (model X.prog X.w) X.A (call (.ref f) us) (PySem.W.CmpBack (EP X pins σ Q)) X.xe s := by
  have h2 : sp (vs ++ []) H Q E0 := by
    rw [List.append_nil]
    exact h
  exact wpAny_mono (run_fn F hr hb .nil pass0 I r h2) (fun u s' q => back_of q) fun _ _ z => z
theorem ins_at {pins : List (Addr × Obj)} {σ : L2.St} {H : Hp} {s : Shared} {a C dx : Addr} {fs : List (Str × V)} (I : L2.Inv X pins σ H s) (e : H a = some (.ins C dx fs)) : ∃ od, PySem.W.InstAt s.heap a (PySem.W.instObj C dx) C (some od) := by
  obtain ⟨mA, O, _⟩ := ins_get I.hok e
  obtain ⟨od, J, _⟩ := O.look
  exact ⟨od, J⟩
/-- x op y, both of the class C -/
def rOwn (C : Addr) (sp : Sp) : R2 := fun x y H Q => ∃ (a b dx dy : Addr) (fs gs : List (Str × V)), x = .ref a ∧ y = .ref b ∧ H a = some (.ins C dx fs) ∧ H b = some (.ins C dy gs) ∧ sp [x, y] H Q E0
theorem op_own {op : Operator} {C : Addr} {k j : Nat} {sp : Sp} (O : Om X.prog X.w X.K X.mg X.base C j (dunder op.info.2) sp) (T : OpI X.K C op.info.2) (hr : Room k X.A) (hjk : j ≤ k := by decide) : OpR X (binaryOp op) (rOwn C sp) := by
  intro pins s σ H x y v u Q I rx ry h
  obtain ⟨a, b, dx, dy, fs, gs, rfl, rfl, ha, hb, q⟩ := h
  obtain ⟨f, fd, ps, F, hs, hf, hbd⟩ := O
  have rr : Vals [V.ref a, V.ref b] [v, u] := .cons rx (.cons ry .nil)
  cases (show v = Value.ref a from rx)
  cases (show u = Value.ref b from ry)
  obtain ⟨od, J⟩ := ins_at I ha
  obtain ⟨oe, J'⟩ := ins_at I hb
  exact own_binop I.kIn J J' T.sf hs hf (om_run F hbd (hr.mono hjk) I rr q)
/-- x op k, x of the class C, k an int -/
def rOwnI (C : Addr) (sp : Sp) : R2 := fun x y H Q => ∃ (a dx : Addr) (fs : List (Str × V)) (i : Int), x = .ref a ∧ y = .int i ∧ H a = some (.ins C dx fs) ∧ sp [x, y] H Q E0
theorem op_ownI {op : Operator} {C : Addr} {k j : Nat} {sp : Sp} (O : Om X.prog X.w X.K X.mg X.base C j (dunder op.info.2) sp) (T : OpI X.K C op.info.2) (hr : Room k X.A) (hjk : j ≤ k := by decide) : OpR X (binaryOp op) (rOwnI C sp) := by
  intro pins s σ H x y v u Q I rx ry h
  obtain ⟨a, dx, fs, i, rfl, rfl, ha, q⟩ := h
  obtain ⟨f, fd, ps, F, hs, hf, hbd⟩ := O
  have rr : Vals [V.ref a, V.int i] [v, u] := .cons rx (.cons ry .nil)
  cases (show v = Value.ref a from rx)
  obtain ⟨t, rfl⟩ := (show ∃ t, u = Value.int i t from ry)
  obtain ⟨od, J⟩ := ins_at I ha
  obtain ⟨m, hF⟩ := I.fr
  obtain ⟨rc, hrc, hp⟩ := T.rr
  obtain ⟨fo, h1⟩ := T.i1
  obtain ⟨ro, h2⟩ := T.i2
  exact PySem.W.ksp_binT hF I.ok.mod.kin J rfl T.sf hs hf hrc hp h1 h2 T.s1 (om_run F hbd (hr.mono hjk) I rr q)
/-- k * x, k an int, x of the class C -/
def rRefl (C : Addr) (sp : Sp) : R2 := fun x y H Q => ∃ (a dx : Addr) (fs : List (Str × V)) (i : Int), x = .int i ∧ y = .ref a ∧ H a = some (.ins C dx fs) ∧ sp [y, x] H Q E0
theorem op_reflMul {C : Addr} {k j j0 : Nat} {sp sp0 : Sp} (O0 : Om X.prog X.w X.K X.mg X.base C j0 (dunder "mul") sp0) (O : Om X.prog X.w X.K X.mg X.base C j (dunderR "mul") sp) (T : OpI X.K C "mul") (hr : Room k X.A) (hjk : j ≤ k := by decide) : OpR X (binaryOp .Mult) (rRefl C sp) := by
  intro pins s σ H x y v u Q I rx ry h
  obtain ⟨a, dx, fs, i, rfl, rfl, ha, q⟩ := h
  obtain ⟨f, fd, ps, F, hs, hf, hbd⟩ := O
  obtain ⟨f0, _, _, _, hs0, _, _⟩ := O0
  have rr : Vals [V.ref a, V.int i] [u, v] := .cons ry (.cons rx .nil)
  obtain ⟨t, rfl⟩ := (show ∃ t, v = Value.int i t from rx)
  cases (show u = Value.ref a from ry)
  obtain ⟨od, J⟩ := ins_at I ha
  exact refl_binop (op := .Mult) I.kIn J T.sf hs0 hs hf T.s2 PySem.F.fills_int_mul PySem.F.slot_int_mul (mul_no_call i t J.1) (om_run F hbd (hr.mono hjk) I rr q)
/-- x == y, x of the class C with its own == -/
def rEqOwn (K : PySem.W.Frag) (C : Addr) (sp : Sp) : R2 := fun x y H Q => ∃ (a dx : Addr) (fs : List (Str × V)) (t : Value), x = .ref a ∧ H a = some (.ins C dx fs) ∧ TyOf K H y t ∧ PySem.W.notFirst K C t = true ∧ sp [x, y] H Q E0
theorem ty_looks {pins : List (Addr × Obj)} {σ : L2.St} {H : Hp} {s : Shared} {y : V} {u t : Value} (I : L2.Inv X pins σ H s) (ry : RelV y u) (ty : TyOf X.K H y t) : PySem.W.Looks (model X.prog X.w) s.heap (typeOf u) t := by
  obtain ⟨P, Z, p, _⟩ := kit_of I ry (.base ty)
  exact Z.ty _ _ I.kIn p
theorem op_eqOwn {C : Addr} {k j : Nat} {sp : Sp} (O : Om X.prog X.w X.K X.mg X.base C j "__eq__" sp) (hr : Room k X.A) (hjk : j ≤ k := by decide) : OpR X (compareOp .Eq) (rEqOwn X.K C sp) := by
  intro pins s σ H x y v u Q I rx ry h
  obtain ⟨a, dx, fs, t, rfl, ha, ty, hn, q⟩ := h
  obtain ⟨f, fd, ps, F, hs, hf, hbd⟩ := O
  have rr : Vals [V.ref a, y] [v, u] := .cons rx (.cons ry .nil)
  cases (show v = Value.ref a from rx)
  obtain ⟨od, J⟩ := ins_at I ha
  obtain ⟨m, hF⟩ := I.fr
  show wpAny (model X.prog X.w) X.A (richCompare .Eq (.ref a) u) (EP X pins σ Q) X.xe s
  exact PySem.W.cmp_K (op := .Eq) hr.units0 hF I.ok.mod.kin J (ty_looks I ry ty) hn hs hf (om_run F hbd (hr.mono hjk) I rr q)
end
end Z

set_option maxHeartbeats 4000000
namespace Z
open PySem PySem.Spec PyProof.Rows L2
/-! ### sums and places as objects -/
theorem look_hd {f : Str} {v : V} {r : List (Str × V)} : List.lookup f ((f, v) :: r) = some v := by simp [List.lookup]
theorem look_tl {f g : Str} {v : V} {r : List (Str × V)} (h : ¬ f = g) : List.lookup f ((g, v) :: r) = List.lookup f r := by
  have e : (f == g) = false := by simpa using h
  simp [List.lookup, e]
theorem at_upd {H : Hp} {t l : Addr} {u : HO} (o : HO) (h : H t = some u) (hl : H l = none) : (upd H l o) t = some u := by
  rw [upd_ne (ne_of_none h hl)]
  exact h
theorem Same.keep {H H1 H' : Hp} {a : Addr} {o : HO} (s : Same H H1) (ha : H1 a = none) (kp : Keep a (upd H1 a o) H') : Same H H' := fun b u e => by
  have q := s b u e
  have nb : b ≠ a := ne_of_none q ha
  exact kp b u nb (by rw [upd_ne nb]; exact q)
/-- behind a new instance -/
theorem Same.made {H H1 H' : Hp} {x dx C : Addr} (s : Same H H1) (nx : H1 x = none) (nd : H1 dx = none) (kp : Keep x (upd (upd H1 dx (.own x)) x (.ins C dx [])) H') : Same H H' := fun b u e => by
  have q := s b u e
  have nb : b ≠ x := ne_of_none q nx
  have nd' : b ≠ dx := ne_of_none q nd
  exact kp b u nb (by rw [upd_ne nb, upd_ne nd']; exact q)
theorem in_ : ¬ (("i" : Str) = "n") := by decide +kernel
theorem io_ : ¬ (("i" : Str) = "one") := by decide +kernel
theorem no_ : ¬ (("n" : Str) = "one") := by decide +kernel
theorem sd_ : ¬ (("straight" : Str) = "divisor") := by decide +kernel
theorem len1 (f : Str) (v : V) : (putF f v []).length < 1000 := Nat.lt_of_le_of_lt (length_putF f v []) (by decide)
theorem len2 (f g : Str) (v u : V) : (putF f v (putF g u [])).length < 1000 := Nat.lt_of_le_of_lt (Nat.le_trans (length_putF f v _) (Nat.add_le_add_right (length_putF g u []) 1)) (by decide)
def sf (a b c : Int) : List (Str × V) := putF "one" (.int c) (putF "n" (.int b) (putF "i" (.int a) []))
theorem sf_i (a b c : Int) : (sf a b c).lookup ("i" : Str) = some (.int a) := by
  unfold sf
  rw [lookup_putF, if_neg io_, lookup_putF, if_neg in_, lookup_putF, if_pos rfl]
theorem sf_n (a b c : Int) : (sf a b c).lookup ("n" : Str) = some (.int b) := by
  unfold sf
  rw [lookup_putF, if_neg no_, lookup_putF, if_pos rfl]
theorem sf_one (a b c : Int) : (sf a b c).lookup ("one" : Str) = some (.int c) := by
  unfold sf
  rw [lookup_putF, if_pos rfl]
theorem sf_no (a b c : Int) {m : Str} (h1 : ¬ m = "i") (h2 : ¬ m = "n") (h3 : ¬ m = "one") : (sf a b c).lookup m = none := by
  unfold sf
  rw [lookup_putF, if_neg h3, lookup_putF, if_neg h2, lookup_putF, if_neg h1]
  rfl
def pf (q : Addr) (d : Int) : List (Str × V) := putF "divisor" (.int d) (putF "straight" (.ref q) [])
theorem pf_s (q : Addr) (d : Int) : (pf q d).lookup ("straight" : Str) = some (.ref q) := by
  unfold pf
  rw [lookup_putF, if_neg sd_, lookup_putF, if_pos rfl]
theorem pf_d (q : Addr) (d : Int) : (pf q d).lookup ("divisor" : Str) = some (.int d) := by
  unfold pf
  rw [lookup_putF, if_pos rfl]
theorem pf_no (q : Addr) (d : Int) {m : Str} (h1 : ¬ m = "straight") (h2 : ¬ m = "divisor") : (pf q d).lookup m = none := by
  unfold pf
  rw [lookup_putF, if_neg h2, lookup_putF, if_neg h1]
  rfl
section
variable (K : PySem.W.Frag)
abbrev CS : Addr := He.ga K "Straight"
abbrev CP : Addr := He.ga K "Place"
def StrAt (H : Hp) (p : Addr) (a b c : Int) : Prop := ∃ dx, H p = some (.ins (CS K) dx (sf a b c))
def PlcAt (H : Hp) (p : Addr) (a b c d : Int) : Prop := ∃ dx q, H p = some (.ins (CP K) dx (pf q d)) ∧ StrAt K H q a b c
/-- a sum, or an int in its place -/
def SumV (H : Hp) (v : V) (a b c : Int) : Prop := (∃ p, v = .ref p ∧ StrAt K H p a b c) ∨ (v = .int c ∧ a = 0 ∧ b = 0)
end
variable {K : PySem.W.Frag}
theorem StrAt.same {H H' : Hp} {p : Addr} {a b c : Int} (h : StrAt K H p a b c) (s : Same H H') : StrAt K H' p a b c := by
  obtain ⟨dx, h⟩ := h
  exact ⟨dx, s _ _ h⟩
theorem PlcAt.same {H H' : Hp} {p : Addr} {a b c d : Int} (h : PlcAt K H p a b c d) (s : Same H H') : PlcAt K H' p a b c d := by
  obtain ⟨dx, q, h, h2⟩ := h
  exact ⟨dx, q, s _ _ h, h2.same s⟩
theorem SumV.same {H H' : Hp} {v : V} {a b c : Int} (h : SumV K H v a b c) (s : Same H H') : SumV K H' v a b c := by
  rcases h with ⟨p, e, h⟩ | h
  · exact .inl ⟨p, e, h.same s⟩
  · exact .inr h
theorem StrAt.keep {H H' : Hp} {p q : Addr} {a b c : Int} {t : Nat} (h : StrAt K H p a b c) (hp : Pen H q t) (k : Keep q H H') : StrAt K H' p a b c := by
  obtain ⟨dx, h⟩ := h
  exact ⟨dx, k _ _ (hp.ne h fun _ z => by cases z) h⟩
theorem PlcAt.keep {H H' : Hp} {p q : Addr} {a b c d : Int} {t : Nat} (h : PlcAt K H p a b c d) (hp : Pen H q t) (k : Keep q H H') : PlcAt K H' p a b c d := by
  obtain ⟨dx, r, h, h2⟩ := h
  exact ⟨dx, r, k _ _ (hp.ne h fun _ z => by cases z) h, h2.keep hp k⟩
/-- small enough to be multiplied by anything -/
def Sm (i : Int) : Prop := -(2 ^ 64) < i ∧ i < 2 ^ 64
/-! ### what the program's text says of the classes -/
structure Inx (K : PySem.W.Frag) (C : Addr) : Prop where
  ha : PySem.W.findIn K (.ref C) "__class__" = some (some (.builtin "object.__class__"))
  hn : PySem.W.specialIn K (.builtin "object.__class__") "__get__" = some (some (.builtin "getset_descriptor.__get__"))
  ht : PySem.W.takesIn K (.builtin "object.__class__") = some true
  hm : PySem.W.mroIn K C (.type "object") = some true
structure StTx (K : PySem.W.Frag) (mg : Str → Option Value) : Prop where
  gS : mg "Straight" = some (.ref (CS K))
  clS : Cls K (CS K)
  mkS : Mk K (CS K) (He.ma K (CS K) "__init__")
  ixS : Inx K (CS K)
  nI : NoAttr K (CS K) "i"
  nN : NoAttr K (CS K) "n"
  nO : NoAttr K (CS K) "one"
  kSi : PySem.W.kitOne K (.ref (CS K)) (.type "int") = some false
  kSS : PySem.W.kitOne K (.ref (CS K)) (.ref (CS K)) = some true
  kiS : PySem.W.kitOne K (.type "int") (.ref (CS K)) = some false
  isi : mg "isinstance" = none
  int : mg "int" = none
  bool : mg "bool" = none
theorem StTx.ty {mg : Str → Option Value} (T : StTx K mg) {H : Hp} {p : Addr} {a b c : Int} (h : StrAt K H p a b c) : TyOf K H (.ref p) (.ref (CS K)) := by
  obtain ⟨dx, h⟩ := h
  exact .ins h T.clS T.ixS.ha T.ixS.hn T.ixS.ht T.ixS.hm
theorem kii {K : PySem.W.Frag} : PySem.W.kitOne K (.type "int") (.type "int") = some true := kit_ty (by decide +kernel)
theorem kib {K : PySem.W.Frag} : PySem.W.kitOne K (.type "int") (.type "bool") = some false := kit_ty (by decide +kernel)
/-! ### promises -/
section
variable (K : PySem.W.Frag)
def spSI : Sp := fun vs H Q _ => ∃ (p dx : Addr) (a b c : Int), vs = [.ref p, .int a, .int b, .int c] ∧ H p = some (.ins (CS K) dx []) ∧ ∀ H', H' p = some (.ins (CS K) dx (sf a b c)) → Keep p H H' → Q .non H'
/-- a new sum is handed back -/
def NewS (H : Hp) (a b c : Int) (Q : VK) : Prop := ∀ p H', Same H H' → H p = none → StrAt K H' p a b c → Q (.ref p) H'
def spIsInt : Sp := fun vs H Q _ => ∃ v, vs = [v] ∧ ((∃ i, v = .int i ∧ Q (.bl true) H) ∨ ∃ p a b c, v = .ref p ∧ StrAt K H p a b c ∧ Q (.bl false) H)
def spIsStr : Sp := fun vs H Q _ => ∃ v a b c, vs = [v] ∧ SumV K H v a b c ∧ Q (.bl true) H
def spLike : Sp := fun vs H Q _ => ∃ v a b c, vs = [v] ∧ SumV K H v a b c ∧ ∀ p H', Same H H' → StrAt K H' p a b c → Q (.ref p) H'
def spVal : Sp := fun vs H Q _ => ∃ (p : Addr) (a b c i n : Int), vs = [.ref p, .int i, .int n] ∧ StrAt K H p a b c ∧ Sm a ∧ Sm b ∧ Q (.int (a * i + b * n + c)) H
def spAdded : Sp := fun vs H Q _ => ∃ (p q : Addr) (a b c x y z s : Int), vs = [.ref p, .ref q, .int s] ∧ StrAt K H p a b c ∧ StrAt K H q x y z ∧ Sm s ∧ NewS K H (a + s * x) (b + s * y) (c + s * z) Q
def spRepl : Sp := fun vs H Q _ => ∃ (p : Addr) (a b c f g : Int), vs = [.ref p, .int f, .int g] ∧ StrAt K H p a b c ∧ Sm a ∧ NewS K H (a * f) b (c + a * g) Q
def spSEq : Sp := fun vs H Q _ => ∃ (p : Addr) (a b c : Int) (v : V), vs = [.ref p, v] ∧ StrAt K H p a b c ∧ ((∃ q x y z, v = .ref q ∧ StrAt K H q x y z ∧ Q (.bl (decide (a = x ∧ b = y ∧ c = z))) H) ∨
  ∃ t, TyOf K H v t ∧ PySem.W.kitOne K t (.ref (CS K)) = some false ∧ Q (.bl false) H)
def spSAdd : Sp := fun vs H Q _ => ∃ (p : Addr) (a b c x y z : Int) (v : V), vs = [.ref p, v] ∧ StrAt K H p a b c ∧ SumV K H v x y z ∧ ∀ q H', Same H H' → StrAt K H' q (a + x) (b + y) (c + z) → Q (.ref q) H'
def spSMul : Sp := fun vs H Q _ => ∃ (p : Addr) (a b c k : Int), vs = [.ref p, .int k] ∧ StrAt K H p a b c ∧ (Sm k ∨ Sm a ∧ Sm b ∧ Sm c) ∧ NewS K H (a * k) (b * k) (c * k) Q
end
end Z

set_option maxHeartbeats 4000000
namespace Z
open PySem PySem.Spec PyProof.Rows L2
/-! ### an own class whose making may raise -/
section
variable {X : Cx} {CX : CXT} {k : Nat} {f C : Addr} {fd : FuncData} {ps : List Str} {sp : Sp} {E : XK}
theorem make_at {pins : List (Addr × Obj)} {σ : L2.St} {H : Hp} {s : Shared} {Q : VK} {us : List Value} {vs : List V} (M : Mk X.K C f) (F : FnOk X.prog X.w X.K X.mg X.base CX k f fd ps sp) (hr : Room (k + 1) X.A) (hb : Binds X.K fd ps [])
    (hx : PassesAt CX X σ E) (I : L2.Inv X pins σ H s) (r : Vals vs us)
    (h : ∀ x dx, H x = none → H dx = none → dx ≠ x → sp (.ref x :: vs) (upd (upd H dx (.own x)) x (.ins C dx [])) (fun v H2 => v = .non ∧ Q (.ref x) H2) E) :
    wpAny (model X.prog X.w) X.A (call (.ref C) us) (EP X pins σ Q) X.xe s := by
  have q0 := h (s.heap.objs.size + 1) s.heap.objs.size (I.hok.fresh (Nat.le_succ _)) (I.hok.fresh (Nat.le_refl _)) (Nat.ne_of_lt (Nat.lt_succ_self _))
  have J := Inv.made (C := C) I
  have rr : Vals (V.ref (s.heap.objs.size + 1) :: vs) (Value.ref (s.heap.objs.size + 1) :: us) := .cons rfl r
  have len : (Value.ref (s.heap.objs.size + 1) :: us).length = ps.length := by
    have e := rr.length
    rw [F.len _ _ _ _ q0] at e
    exact e.symm
  have bb := hb _ (Value.ref (s.heap.objs.size + 1) :: us) J.kIn (by rw [List.append_nil]; exact len)
  rw [List.append_nil] at bb
  refine wpAny_call (make_map (f := f) I.kIn M.makes M.init (beq_iff_eq.mp M.fn) (codeAny_mono (F.run _ X.stack _ _ ⟨Value.ref (s.heap.objs.size + 1) :: us, []⟩ (Value.ref (s.heap.objs.size + 1) :: us) _ _ E (hr.make C us [])
    (J.env0.make C us []) bb rr q0) fun r' s' z => ?_))
  cases r' with
  | error e => exact hx pins _ _ e s' J z
  | ok fl =>
    cases fl with
    | ret u =>
      obtain ⟨v, H', I3, rv, ev, q3⟩ := J.after z
      subst ev
      exact ⟨rv, ⟨V.ref (s.heap.objs.size + 1), H', I3, rfl, q3⟩⟩
    | next => exact False.elim z
    | brk => exact False.elim z
    | cont => exact False.elim z
theorem at_E0 (σ : L2.St) : PassesAt (L2.CX X.prog X.w) X σ E0 := fun pins H s e s' I h => passL pins σ H s e s' I h
end
/-! ### an error's own __init__, its dict new -/
def spErr (K : PySem.W.Frag) (x : Str) (fs : List Str) : Sp := fun vs H Q _ => ∃ (a : Addr) (ws : List V), vs = .ref a :: ws ∧ ws.length = fs.length ∧ H a = some (exo a (He.ga K x) none) ∧
  ∀ (d : Addr) (H' : Hp), H d = none → H' a = some (exo a (He.ga K x) (some d)) → H' d = some (exd d (fs.zip ws).reverse) → Keep a H H' → Q .non H'
structure EC (K : PySem.W.Frag) (mg : Str → Option Value) (x : Str) (fs : List Str) : Prop where
  gC : mg x = some (.ref (He.ga K x))
  ox : OexC K (He.ga K x)
  ex : Exk K (He.ga K x)
  iC : PySem.W.findIn K (.ref (He.ga K x)) "__init__" = some (some (.ref (He.ma K (He.ga K x) "__init__")))
  tI : PySem.W.typeIn K (.ref (He.ma K (He.ga K x) "__init__")) = some (.type "function")
  na : ∀ f ∈ fs, PySem.W.findIn K (.ref (He.ga K x)) f = some none
theorem list2 {ws : List V} (h : ws.length = 2) : ∃ y z, ws = [y, z] := match ws, h with | [y, z], _ => ⟨y, z, rfl⟩
theorem list1 {ws : List V} (h : ws.length = 1) : ∃ y, ws = [y] := match ws, h with | [y], _ => ⟨y, rfl⟩
theorem list3 {ws : List V} (h : ws.length = 3) : ∃ y z u, ws = [y, z, u] := match ws, h with | [y, z, u], _ => ⟨y, z, u, rfl⟩
section
variable {K : PySem.W.Frag} {mg : Str → Option Value} {x f1 f2 f3 n0 n1 n2 n3 : Str} {vs : List V} {H : Hp} {Q : VK} {E : XK}
theorem keep1 {a d : Addr} {o u : HO} (hd : H d = none) : Keep a H (upd (upd H d o) a u) := Keep.upd _ (Keep.new _ (Keep.refl a H) hd)
theorem rd_err1 (M : EC K mg x [f1]) (h : spErr K x [f1] vs H Q E) :
    tOst K f1 (tVar 0) (tVar 1) { nx := fun _ H' => Q .non H', rt := Q } (L2.start [n0, n1] vs) H := by
  obtain ⟨a, ws, rfl, hl, ha, k⟩ := h
  obtain ⟨y, rfl⟩ := list1 hl
  refine ⟨_, rfl, _, rfl, a, _, rfl, M.ox, M.na _ (by simp), .inl ⟨ha, fun d hd nd => ?_⟩⟩
  exact k d _ hd upd_same (by rw [upd_ne nd, upd_same]; rfl) (keep1 hd)
theorem rd_err2 (M : EC K mg x [f1, f2]) (h : spErr K x [f1, f2] vs H Q E) :
    tSeq (tOst K f1 (tVar 0) (tVar 1)) (tOst K f2 (tVar 0) (tVar 2)) { nx := fun _ H' => Q .non H', rt := Q } (L2.start [n0, n1, n2] vs) H := by
  obtain ⟨a, ws, rfl, hl, ha, k⟩ := h
  obtain ⟨y, z, rfl⟩ := list2 hl
  refine ⟨_, rfl, _, rfl, a, _, rfl, M.ox, M.na _ (by simp), .inl ⟨ha, fun d hd nd => ?_⟩⟩
  refine ⟨_, rfl, _, rfl, a, _, rfl, M.ox, M.na _ (by simp), .inr ⟨d, [(f1, y)], upd_same, (by rw [upd_ne nd, upd_same]), (by show 1 ≤ 900; decide), ?_⟩⟩
  refine k d _ hd (by rw [upd_ne nd.symm, upd_same]) upd_same fun b u nb e => ?_
  rw [upd_ne (ne_of_none e hd)]
  exact keep1 hd b u nb e
theorem rd_err3 (M : EC K mg x [f1, f2, f3]) (h : spErr K x [f1, f2, f3] vs H Q E) :
    tSeq (tOst K f1 (tVar 0) (tVar 1)) (tSeq (tOst K f2 (tVar 0) (tVar 2)) (tOst K f3 (tVar 0) (tVar 3))) { nx := fun _ H' => Q .non H', rt := Q } (L2.start [n0, n1, n2, n3] vs) H := by
  obtain ⟨a, ws, rfl, hl, ha, k⟩ := h
  obtain ⟨y, z, u, rfl⟩ := list3 hl
  refine ⟨_, rfl, _, rfl, a, _, rfl, M.ox, M.na _ (by simp), .inl ⟨ha, fun d hd nd => ?_⟩⟩
  refine ⟨_, rfl, _, rfl, a, _, rfl, M.ox, M.na _ (by simp), .inr ⟨d, [(f1, y)], upd_same, (by rw [upd_ne nd, upd_same]), (by show 1 ≤ 900; decide), ?_⟩⟩
  refine ⟨_, rfl, _, rfl, a, _, rfl, M.ox, M.na _ (by simp), .inr ⟨d, [(f2, z), (f1, y)], (by rw [upd_ne nd.symm, upd_same]), upd_same, (by show 2 ≤ 900; decide), ?_⟩⟩
  refine k d _ hd (by rw [upd_ne nd.symm, upd_ne nd.symm, upd_same]) upd_same fun b v nb e => ?_
  rw [upd_ne (ne_of_none e hd), upd_ne (ne_of_none e hd)]
  exact keep1 hd b v nb e
end
/-- an error class that may be raised -/
def Mx (P : Program) (w : World) (K : PySem.W.Frag) (mg : Str → Option Value) (base : Heap) (x : Str) (ps fs : List Str) : Prop :=
  EC K mg x fs ∧ ∃ fd, FnOk P w K mg base CX0 1 (He.ma K (He.ga K x) "__init__") fd ps (spErr K x fs) ∧ Binds K fd ps []
section
variable {X : Cx} {e : Expr} {es : List Expr} {t : TA} {p pos pos2 : Pos} {W : WX}
theorem pmk_err {k : Nat} {x : Str} {ps fs : List Str} (M : Mx X.prog X.w X.K X.mg X.base x ps fs) (hr : Room k X.A) (ha : PA X (e :: es) t) (hk : 2 ≤ k := by decide) (hg : Gl X x := by rfl)
    (hdb : (x == ("__debug__" : Str)) = false := by decide) (he : starEach (e :: es) X.env = (false, eval e X.env) :: starEach es X.env := by rfl) (hpl : (backTo pos (starEach es X.env)).any (·.1) = false := by rfl) :
    PMk X (.Call (.Name x p) (e :: es) [] pos) (tMkO (He.ga X.K x) (spErr X.K x fs) [] t) := by
  obtain ⟨T, fd, F, hb⟩ := M
  exact pmk_oex (CX := CX0) (dvs := []) (ds := []) T.ox T.iC T.tI F (hr.mono hk) hb .nil pass0 hg T.gC ha hdb he hpl
/-- the reading of such a raise behind its arguments: the new dict holds the fields, all else is as it was -/
theorem err_go {K : PySem.W.Frag} {x : Str} {fs : List Str} {vs : List V} {H1 : Hp} {Q : XK} (hl : vs.length ≤ 1000) (hlf : vs.length = fs.length)
    (w : ∀ d H', Same H1 H' → H' d = some (.xd (fs.zip vs).reverse) → Q (.ref (He.ga K x)) (some d) H') :
    vs.length ≤ 1000 ∧ ∀ a, H1 a = none → spErr K x fs (.ref a :: (vs ++ [])) (upd H1 a (exo a (He.ga K x) none))
      (fun v H2 => v = .non ∧ ∃ (d : Addr) (fs' : List (Str × V)), H2 a = some (exo a (He.ga K x) (some d)) ∧ H2 d = some (exd d fs') ∧ H1 d = none ∧ Q (.ref (He.ga K x)) (some d) (upd (del H2 a) d (.xd fs'))) (fun _ _ _ => False) := by
  refine ⟨hl, fun a ha => ?_⟩
  rw [List.append_nil]
  refine ⟨a, vs, rfl, hlf, upd_same, fun d H' hd hA hD kp => ⟨rfl, d, _, hA, hD, ?_, w d _ (fun b u e => ?_) upd_same⟩⟩
  · have n : d ≠ a := fun z => by
      rw [z, upd_same] at hd
      cases hd
    rw [upd_ne n] at hd
    exact hd
  · have nb : b ≠ a := ne_of_none e ha
    have nd : b ≠ d := fun z => by
      rw [← z, upd_ne nb] at hd
      rw [hd] at e
      cases e
    rw [upd_ne nd, del_ne nb]
    exact kp b u nb (by rw [upd_ne nb]; exact e)
end
/-! ### places -/
def gg (a b d : Int) : Nat := Nat.gcd (Nat.gcd a.natAbs b.natAbs) d.natAbs
abbrev CB (K : PySem.W.Frag) : Addr := He.ga K "BadNumber"
structure PlTx (K : PySem.W.Frag) (mg : Str → Option Value) : Prop extends StTx K mg where
  gP : mg "Place" = some (.ref (CP K))
  clP : Cls K (CP K)
  mkP : Mk K (CP K) (He.ma K (CP K) "__init__")
  ixP : Inx K (CP K)
  nS : NoAttr K (CP K) "straight"
  nD : NoAttr K (CP K) "divisor"
  gcd : mg "gcd" = some (.builtin "math.gcd")
  kPP : PySem.W.kitOne K (.ref (CP K)) (.ref (CP K)) = some true
  kPS : PySem.W.kitOne K (.ref (CP K)) (.ref (CS K)) = some false
  kSP : PySem.W.kitOne K (.ref (CS K)) (.ref (CP K)) = some false
  kiP : PySem.W.kitOne K (.type "int") (.ref (CP K)) = some false
theorem PlTx.pty {K : PySem.W.Frag} {mg : Str → Option Value} (T : PlTx K mg) {H : Hp} {p : Addr} {a b c d : Int} (h : PlcAt K H p a b c d) : TyOf K H (.ref p) (.ref (CP K)) := by
  obtain ⟨dx, q, h, _⟩ := h
  exact .ins h T.clP T.ixP.ha T.ixP.hn T.ixP.ht T.ixP.hm
def bnF (w : Str) (v : V) : List (Str × V) := [("number", v), ("what", .str w)]
section
variable (K : PySem.W.Frag)
/-- the place that is made of a sum and a divisor -/
def NewP (H : Hp) (a b c d : Int) (Q : VK) : Prop := ∀ p H', Same H H' → PlcAt K H' p (a.fdiv (gg a b d)) (b.fdiv (gg a b d)) (c.fdiv (gg a b d)) (d.fdiv (gg a b d)) → Q (.ref p) H'
def BadN (H : Hp) (w : Str) (v : V) (E : XK) : Prop := ∀ e H', Same H H' → H' e = some (.xd (bnF w v)) → E (.ref (CB K)) (some e) H'
def spPI : Sp := fun vs H Q E => ∃ (p dx : Addr) (v : V) (a b c d : Int), vs = [.ref p, v, .int d] ∧ H p = some (.ins (CP K) dx []) ∧ SumV K H v a b c ∧ (d < 1 → BadN K H "divisor" (.int d) E) ∧
  (1 ≤ d → d < 1073741824 ∧ ∀ q H', H' p = some (.ins (CP K) dx (pf q (d.fdiv (gg a b d)))) → StrAt K H' q (a.fdiv (gg a b d)) (b.fdiv (gg a b d)) (c.fdiv (gg a b d)) → Keep p H H' → Q .non H')
/-- Place(v, d): what is asked of the arguments -/
def rPlc (v : V) (d : Int) (H : Hp) (Q : VK) (E : XK) : Prop := ∃ a b c, SumV K H v a b c ∧ (d < 1 → BadN K H "divisor" (.int d) E) ∧ (1 ≤ d → d < 1073741824 ∧ NewP K H a b c d Q)
def spFdiv : Sp := fun vs H Q E => ∃ (p : Addr) (a b c d : Int), vs = [.ref p, .int d] ∧ StrAt K H p a b c ∧ (d < 1 → BadN K H "divisor" (.int d) E) ∧ (1 ≤ d → d < 1073741824 ∧ NewP K H a b c d Q)
def spPCall : Sp := fun vs H Q _ => ∃ (p : Addr) (a b c d i n : Int), vs = [.ref p, .int i, .int n] ∧ PlcAt K H p a b c d ∧ Sm a ∧ Sm b ∧ 0 < d ∧ d < 1073741824 ∧ Q (.int ((a * i + b * n + c).fdiv d)) H
def spPEq : Sp := fun vs H Q _ => ∃ (p : Addr) (a b c d : Int) (v : V), vs = [.ref p, v] ∧ PlcAt K H p a b c d ∧ ((∃ q x y z u, v = .ref q ∧ PlcAt K H q x y z u ∧ Q (.bl (decide (a = x ∧ b = y ∧ c = z ∧ d = u))) H) ∨
  ∃ t, TyOf K H v t ∧ PySem.W.kitOne K t (.ref (CP K)) = some false ∧ Q (.bl false) H)
def spPRepl : Sp := fun vs H Q _ => ∃ (p : Addr) (a b c d f g : Int), vs = [.ref p, .int f, .int g] ∧ PlcAt K H p a b c d ∧ Sm a ∧ 1 ≤ d ∧ d < 1073741824 ∧ NewP K H (a * f) b (c + a * g) d Q
end
end Z

namespace Z
/-! ### the arithmetic of least forms -/
theorem fe {x g : Int} (h : 0 < g) : x.fdiv g = x / g := Int.fdiv_eq_ediv_of_nonneg _ (Int.le_of_lt h)
theorem gg_pos {a b d : Int} (h : 0 < d) : 0 < gg a b d := Nat.gcd_pos_of_pos_right _ (by omega)
theorem gg_le {a b d : Int} (h : 0 < d) : ((gg a b d : Nat) : Int) ≤ d := by
  have := Nat.le_of_dvd (by omega) (Nat.gcd_dvd_right (Nat.gcd a.natAbs b.natAbs) d.natAbs)
  show ((Nat.gcd (Nat.gcd a.natAbs b.natAbs) d.natAbs : Nat) : Int) ≤ d
  omega
theorem gg_dvd (a b d : Int) : ∃ a' b' d', a = (gg a b d : Int) * a' ∧ b = (gg a b d : Int) * b' ∧ d = (gg a b d : Int) * d' := by
  have h1 : ((gg a b d : Nat) : Int) ∣ a := Int.ofNat_dvd_left.mpr (Nat.dvd_trans (Nat.gcd_dvd_left _ _) (Nat.gcd_dvd_left _ _))
  have h2 : ((gg a b d : Nat) : Int) ∣ b := Int.ofNat_dvd_left.mpr (Nat.dvd_trans (Nat.gcd_dvd_left _ _) (Nat.gcd_dvd_right _ _))
  have h3 : ((gg a b d : Nat) : Int) ∣ d := Int.ofNat_dvd_left.mpr (Nat.gcd_dvd_right _ _)
  exact ⟨_, _, _, h1.choose_spec, h2.choose_spec, h3.choose_spec⟩
theorem fmul {g x : Int} (h : 0 < g) : (g * x).fdiv g = x := by
  rw [fe h]
  exact Int.mul_ediv_cancel_left _ (by omega)
theorem fdiv_bd {x M g : Int} (h : 0 < g) (hM : 0 ≤ M) (h1 : -M ≤ x) (h2 : x ≤ M) : -M ≤ x.fdiv g ∧ x.fdiv g ≤ M := by
  rw [fe h]
  have z : M ≤ M * g := by
    have := Int.mul_le_mul_of_nonneg_left (show (1 : Int) ≤ g by omega) hM
    omega
  have z2 : -M * g ≤ x := by
    rw [Int.neg_mul]
    omega
  refine ⟨Int.le_ediv_of_mul_le h z2, ?_⟩
  exact Int.ediv_le_of_le_mul h (by omega)
/-- the divisor of the least form is from 1 on and not above d -/
theorem dv_bd {a b d : Int} (h : 0 < d) : 1 ≤ d.fdiv (gg a b d) ∧ d.fdiv (gg a b d) ≤ d := by
  have g0 : (0 : Int) < (gg a b d : Nat) := by exact_mod_cast gg_pos h
  refine ⟨?_, (fdiv_bd g0 (Int.le_of_lt h) (by omega) (Int.le_refl d)).2⟩
  rw [fe g0]
  exact Int.le_ediv_of_mul_le g0 (by rw [Int.one_mul]; exact gg_le h)
/-- the value of the least form -/
theorem val_least {a b c d i n : Int} (h : 0 < d) : ((a.fdiv (gg a b d)) * i + (b.fdiv (gg a b d)) * n + c.fdiv (gg a b d)).fdiv (d.fdiv (gg a b d)) = (a * i + b * n + c).fdiv d := by
  have dv := dv_bd (a := a) (b := b) h
  obtain ⟨a', b', d', ha, hb, hd⟩ := gg_dvd a b d
  have g0 : (0 : Int) < (gg a b d : Nat) := by exact_mod_cast gg_pos h
  generalize ((gg a b d : Nat) : Int) = g at *
  have e1 : a.fdiv g = a' := by rw [ha]; exact fmul g0
  have e2 : b.fdiv g = b' := by rw [hb]; exact fmul g0
  have e3 : d.fdiv g = d' := by rw [hd]; exact fmul g0
  rw [e3] at dv
  rw [e1, e2, e3, fe (show 0 < d' by omega), fe g0, fe h]
  have e4 : a * i + b * n + c = c + g * (a' * i + b' * n) := by
    rw [ha, hb, Int.mul_add, Int.mul_assoc, Int.mul_assoc]
    omega
  have e5 : a' * i + b' * n + c / g = (c + g * (a' * i + b' * n)) / g := by
    rw [Int.add_mul_ediv_left _ _ (by omega)]
    omega
  rw [e4, e5, hd, Int.ediv_ediv_of_nonneg (Int.le_of_lt g0)]
/-- the least form of a least form with another counter -/
theorem least_moved {a b c d m s : Int} (h : 0 < d) :
    (a.fdiv (gg a b d) * m).fdiv (gg (a.fdiv (gg a b d) * m) (b.fdiv (gg a b d)) (d.fdiv (gg a b d))) = (a * m).fdiv (gg (a * m) b d) ∧
    (b.fdiv (gg a b d)).fdiv (gg (a.fdiv (gg a b d) * m) (b.fdiv (gg a b d)) (d.fdiv (gg a b d))) = b.fdiv (gg (a * m) b d) ∧
    (c.fdiv (gg a b d) + a.fdiv (gg a b d) * s).fdiv (gg (a.fdiv (gg a b d) * m) (b.fdiv (gg a b d)) (d.fdiv (gg a b d))) = (a * s + c).fdiv (gg (a * m) b d) ∧
    (d.fdiv (gg a b d)).fdiv (gg (a.fdiv (gg a b d) * m) (b.fdiv (gg a b d)) (d.fdiv (gg a b d))) = d.fdiv (gg (a * m) b d) := by
  have dv := dv_bd (a := a) (b := b) h
  obtain ⟨a', b', d', ha, hb, hd⟩ := gg_dvd a b d
  have gp := gg_pos (a := a) (b := b) h
  have g0 : (0 : Int) < (gg a b d : Nat) := by exact_mod_cast gp
  generalize hg : gg a b d = g at *
  have e1 : a.fdiv g = a' := by rw [ha]; exact fmul g0
  have e2 : b.fdiv g = b' := by rw [hb]; exact fmul g0
  have e3 : d.fdiv g = d' := by rw [hd]; exact fmul g0
  rw [e3] at dv
  rw [e1, e2, e3]
  have d0 : 0 < d' := by omega
  have p2 := gg_pos (a := a' * m) (b := b') d0
  have e4 : gg (a * m) b d = g * gg (a' * m) b' d' := by
    unfold gg
    rw [ha, hb, hd, Int.mul_assoc]
    simp only [Int.natAbs_mul, Int.natAbs_natCast, Nat.gcd_mul_left]
  rw [e4]
  generalize gg (a' * m) b' d' = k at *
  have k0 : (0 : Int) < (k : Nat) := by exact_mod_cast p2
  have gk : (0 : Int) < ((g * k : Nat) : Int) := by exact_mod_cast Nat.mul_pos gp p2
  rw [fe k0, fe k0, fe k0, fe k0, fe gk, fe gk, fe gk, fe gk, fe g0, Int.natCast_mul]
  refine ⟨?_, ?_, ?_, ?_⟩
  · rw [ha, Int.mul_assoc, Int.mul_ediv_mul_of_pos _ _ g0]
  · rw [hb, Int.mul_ediv_mul_of_pos _ _ g0]
  · have e5 : a * s + c = c + g * (a' * s) := by
      rw [ha, Int.mul_assoc]
      omega
    rw [e5, ← Int.ediv_ediv_of_nonneg (Int.le_of_lt g0), Int.add_mul_ediv_left _ _ (by omega)]
  · rw [hd, Int.mul_ediv_mul_of_pos _ _ g0]
end Z

set_option maxHeartbeats 4000000
namespace K20
open PySem PySem.Spec PyProof.Rows L2 Z
def top (i : Nat) : Stmt := PySem.Challenge.pw_loopsize_k20_places_in_least_form.main.body.getD i (.Pass ⟨0, 0, 0, 0⟩)
abbrev s_is_integer : Stmt := top 5
abbrev s_is_straight : Stmt := top 9
abbrev s_straight_like : Stmt := top 10
abbrev s_value_of : Stmt := top 11
abbrev s_added : Stmt := top 12
abbrev s_replaced_straight : Stmt := top 13
abbrev s_law_pen : Stmt := top 15
abbrev s_law_draw : Stmt := top 16
abbrev s_law_big : Stmt := top 17
abbrev s_law_between : Stmt := top 18
abbrev s_law_far : Stmt := top 19
abbrev s_law_integer : Stmt := top 20
abbrev s_law_divisor : Stmt := top 21
abbrev s_law_place_due : Stmt := top 22
abbrev s_law_refused_divisor : Stmt := top 23
abbrev s_law_moved_right : Stmt := top 24
abbrev s_law_place_right : Stmt := top 25
abbrev s_law : Stmt := top 26
abbrev iBadNumber__init__ : Stmt := inClass (top 3) 0
abbrev iStraight__init__ : Stmt := inClass (top 7) 0
abbrev iStraight__call__ : Stmt := inClass (top 7) 1
abbrev iStraight__eq__ : Stmt := inClass (top 7) 2
abbrev iStraight__add__ : Stmt := inClass (top 7) 3
abbrev iStraight__radd__ : Stmt := inClass (top 7) 4
abbrev iStraight__sub__ : Stmt := inClass (top 7) 5
abbrev iStraight__rsub__ : Stmt := inClass (top 7) 6
abbrev iStraight__neg__ : Stmt := inClass (top 7) 7
abbrev iStraight__mul__ : Stmt := inClass (top 7) 8
abbrev iStraight__rmul__ : Stmt := inClass (top 7) 9
abbrev iStraight__floordiv__ : Stmt := inClass (top 7) 10
abbrev iStraightreplaced : Stmt := inClass (top 7) 11
abbrev iPlace__init__ : Stmt := inClass (top 8) 0
abbrev iPlace__call__ : Stmt := inClass (top 8) 1
abbrev iPlace__eq__ : Stmt := inClass (top 8) 2
abbrev iPlacereplaced : Stmt := inClass (top 8) 3
def d_is_integer : He.DefD := ⟨("is_integer", none), "is_integer", "is_integer", defArgs s_is_integer, defBody s_is_integer, defScope s_is_integer, [], []⟩
def d_is_straight : He.DefD := ⟨("is_straight", none), "is_straight", "is_straight", defArgs s_is_straight, defBody s_is_straight, defScope s_is_straight, [], []⟩
def d_straight_like : He.DefD := ⟨("straight_like", none), "straight_like", "straight_like", defArgs s_straight_like, defBody s_straight_like, defScope s_straight_like, [], []⟩
def d_value_of : He.DefD := ⟨("value_of", none), "value_of", "value_of", defArgs s_value_of, defBody s_value_of, defScope s_value_of, [], []⟩
def d_added : He.DefD := ⟨("added", none), "added", "added", defArgs s_added, defBody s_added, defScope s_added, [], []⟩
def d_replaced_straight : He.DefD := ⟨("replaced_straight", none), "replaced_straight", "replaced_straight", defArgs s_replaced_straight, defBody s_replaced_straight, defScope s_replaced_straight, [], []⟩
def d_law_pen : He.DefD := ⟨("_law_pen", none), "_law_pen", "_law_pen", defArgs s_law_pen, defBody s_law_pen, defScope s_law_pen, [], []⟩
def d_law_draw : He.DefD := ⟨("_law_draw", none), "_law_draw", "_law_draw", defArgs s_law_draw, defBody s_law_draw, defScope s_law_draw, [], []⟩
def d_law_big : He.DefD := ⟨("_law_big", none), "_law_big", "_law_big", defArgs s_law_big, defBody s_law_big, defScope s_law_big, [], []⟩
def d_law_between : He.DefD := ⟨("_law_between", none), "_law_between", "_law_between", defArgs s_law_between, defBody s_law_between, defScope s_law_between, [], []⟩
def d_law_far : He.DefD := ⟨("_law_far", none), "_law_far", "_law_far", defArgs s_law_far, defBody s_law_far, defScope s_law_far, [], []⟩
def d_law_integer : He.DefD := ⟨("_law_integer", none), "_law_integer", "_law_integer", defArgs s_law_integer, defBody s_law_integer, defScope s_law_integer, [], []⟩
def d_law_divisor : He.DefD := ⟨("_law_divisor", none), "_law_divisor", "_law_divisor", defArgs s_law_divisor, defBody s_law_divisor, defScope s_law_divisor, [], []⟩
def d_law_place_due : He.DefD := ⟨("_law_place_due", none), "_law_place_due", "_law_place_due", defArgs s_law_place_due, defBody s_law_place_due, defScope s_law_place_due, [], []⟩
def d_law_refused_divisor : He.DefD := ⟨("_law_refused_divisor", none), "_law_refused_divisor", "_law_refused_divisor", defArgs s_law_refused_divisor, defBody s_law_refused_divisor, defScope s_law_refused_divisor, [], []⟩
def d_law_moved_right : He.DefD := ⟨("_law_moved_right", none), "_law_moved_right", "_law_moved_right", defArgs s_law_moved_right, defBody s_law_moved_right, defScope s_law_moved_right, [], []⟩
def d_law_place_right : He.DefD := ⟨("_law_place_right", none), "_law_place_right", "_law_place_right", defArgs s_law_place_right, defBody s_law_place_right, defScope s_law_place_right, [], []⟩
def d_law : He.DefD := ⟨("law", none), "law", "law", defArgs s_law, defBody s_law, defScope s_law, [], []⟩
def dBadNumber__init__ : He.DefD := ⟨("BadNumber", some "__init__"), "__init__", "BadNumber.__init__", defArgs iBadNumber__init__, defBody iBadNumber__init__, defScope iBadNumber__init__, [], []⟩
def dStraight__init__ : He.DefD := ⟨("Straight", some "__init__"), "__init__", "Straight.__init__", defArgs iStraight__init__, defBody iStraight__init__, defScope iStraight__init__, [], []⟩
def dStraight__call__ : He.DefD := ⟨("Straight", some "__call__"), "__call__", "Straight.__call__", defArgs iStraight__call__, defBody iStraight__call__, defScope iStraight__call__, [], []⟩
def dStraight__eq__ : He.DefD := ⟨("Straight", some "__eq__"), "__eq__", "Straight.__eq__", defArgs iStraight__eq__, defBody iStraight__eq__, defScope iStraight__eq__, [], []⟩
def dStraight__add__ : He.DefD := ⟨("Straight", some "__add__"), "__add__", "Straight.__add__", defArgs iStraight__add__, defBody iStraight__add__, defScope iStraight__add__, [], []⟩
def dStraight__radd__ : He.DefD := ⟨("Straight", some "__radd__"), "__radd__", "Straight.__radd__", defArgs iStraight__radd__, defBody iStraight__radd__, defScope iStraight__radd__, [], []⟩
def dStraight__sub__ : He.DefD := ⟨("Straight", some "__sub__"), "__sub__", "Straight.__sub__", defArgs iStraight__sub__, defBody iStraight__sub__, defScope iStraight__sub__, [], []⟩
def dStraight__rsub__ : He.DefD := ⟨("Straight", some "__rsub__"), "__rsub__", "Straight.__rsub__", defArgs iStraight__rsub__, defBody iStraight__rsub__, defScope iStraight__rsub__, [], []⟩
def dStraight__neg__ : He.DefD := ⟨("Straight", some "__neg__"), "__neg__", "Straight.__neg__", defArgs iStraight__neg__, defBody iStraight__neg__, defScope iStraight__neg__, [], []⟩
def dStraight__mul__ : He.DefD := ⟨("Straight", some "__mul__"), "__mul__", "Straight.__mul__", defArgs iStraight__mul__, defBody iStraight__mul__, defScope iStraight__mul__, [], []⟩
def dStraight__rmul__ : He.DefD := ⟨("Straight", some "__rmul__"), "__rmul__", "Straight.__rmul__", defArgs iStraight__rmul__, defBody iStraight__rmul__, defScope iStraight__rmul__, [], []⟩
def dStraight__floordiv__ : He.DefD := ⟨("Straight", some "__floordiv__"), "__floordiv__", "Straight.__floordiv__", defArgs iStraight__floordiv__, defBody iStraight__floordiv__, defScope iStraight__floordiv__, [], []⟩
def dStraightreplaced : He.DefD := ⟨("Straight", some "replaced"), "replaced", "Straight.replaced", defArgs iStraightreplaced, defBody iStraightreplaced, defScope iStraightreplaced, [], []⟩
def dPlace__init__ : He.DefD := ⟨("Place", some "__init__"), "__init__", "Place.__init__", defArgs iPlace__init__, defBody iPlace__init__, defScope iPlace__init__, [], []⟩
def dPlace__call__ : He.DefD := ⟨("Place", some "__call__"), "__call__", "Place.__call__", defArgs iPlace__call__, defBody iPlace__call__, defScope iPlace__call__, [], []⟩
def dPlace__eq__ : He.DefD := ⟨("Place", some "__eq__"), "__eq__", "Place.__eq__", defArgs iPlace__eq__, defBody iPlace__eq__, defScope iPlace__eq__, [], []⟩
def dPlacereplaced : He.DefD := ⟨("Place", some "replaced"), "replaced", "Place.replaced", defArgs iPlacereplaced, defBody iPlacereplaced, defScope iPlacereplaced, [], []⟩
def fn0 : List He.DefD := [d_is_integer, d_is_straight, d_straight_like, d_value_of, d_added, d_replaced_straight, d_law_pen, d_law_draw]
def fn1 : List He.DefD := [d_law_big, d_law_between, d_law_far, d_law_integer, d_law_divisor, d_law_place_due, d_law_refused_divisor, d_law_moved_right]
def fn2 : List He.DefD := [d_law_place_right, d_law, dBadNumber__init__, dStraight__init__, dStraight__call__, dStraight__eq__, dStraight__add__, dStraight__radd__]
def fn3 : List He.DefD := [dStraight__sub__, dStraight__rsub__, dStraight__neg__, dStraight__mul__, dStraight__rmul__, dStraight__floordiv__, dStraightreplaced, dPlace__init__]
def fn4 : List He.DefD := [dPlace__call__, dPlace__eq__, dPlacereplaced]
def fn : List He.DefD := fn0 ++ fn1 ++ fn2 ++ fn3 ++ fn4
def glos0 : List Str := ["LoopError", "BadNumber", "Straight", "Place", "is_integer", "is_straight", "straight_like", "value_of"]
def glos1 : List Str := ["added", "replaced_straight", "_law_pen", "_law_draw", "_law_big", "_law_between", "_law_far", "_law_integer"]
def glos2 : List Str := ["_law_divisor", "_law_place_due", "_law_refused_divisor", "_law_moved_right", "_law_place_right", "law"]
def glos : List Str := glos0 ++ glos1 ++ glos2
def frees0 : List Str := ["int", "len", "list", "isinstance", "range", "str", "abs", "max"]
def frees1 : List Str := ["min", "bool"]
def frees : List Str := frees0 ++ frees1
def owns0 : List Str := ["Straight", "Place"]
def owns : List Str := owns0
def atts0 : List (Str × Str) := [("Straight", "i"), ("Straight", "n"), ("Straight", "one"), ("Place", "straight"), ("Place", "divisor")]
def atts : List (Str × Str) := atts0
def mets0 : List (Str × Str) := [("Straight", "__init__"), ("Straight", "__call__"), ("Straight", "__eq__"), ("Straight", "__add__"), ("Straight", "__radd__"), ("Straight", "__sub__"), ("Straight", "__rsub__"), ("Straight", "__neg__")]
def mets1 : List (Str × Str) := [("Straight", "__mul__"), ("Straight", "__rmul__"), ("Straight", "__floordiv__"), ("Straight", "replaced"), ("Place", "__init__"), ("Place", "__call__"), ("Place", "__eq__"), ("Place", "replaced")]
def mets : List (Str × Str) := mets0 ++ mets1
def oprs0 : List (Str × String) := [("Straight", "add"), ("Straight", "mul"), ("Straight", "floordiv")]
def oprs : List (Str × String) := oprs0
def excs0 : List (Str × List Str) := [("BadNumber", ["what", "number"])]
def excs : List (Str × List Str) := excs0
def kits (K : PySem.W.Frag) : Bool := true && decide (PySem.W.kitOne K (.ref (He.ga K "Straight")) (.type "int") = some false) && decide (PySem.W.kitOne K (.ref (He.ga K "Straight")) (.ref (He.ga K "Straight")) = some true) && decide (PySem.W.kitOne K (.ref (He.ga K "Straight")) (.ref (He.ga K "Place")) = some false) && decide (PySem.W.kitOne K (.ref (He.ga K "Place")) (.ref (He.ga K "Place")) = some true) && decide (PySem.W.kitOne K (.ref (He.ga K "Place")) (.ref (He.ga K "Straight")) = some false) && decide (PySem.W.kitOne K (.ref (He.ga K "Place")) (.type "int") = some false) && decide (PySem.W.kitOne K (.type "int") (.ref (He.ga K "Place")) = some false) && decide (PySem.W.kitOne K (.type "int") (.ref (He.ga K "Straight")) = some false) && decide (PySem.W.kitOne K (.type "str") (.ref (He.ga K "Place")) = some false) && decide (PySem.W.kitOne K (.type "int") (.type "int") = some true) && decide (PySem.W.kitOne K (.type "int") (.type "bool") = some false)
def insB (K : PySem.W.Frag) (C : Addr) : Bool := He.eqO (PySem.W.findIn K (.ref C) "__class__") (some (some (.builtin "object.__class__"))) && (He.eqO (PySem.W.specialIn K (.builtin "object.__class__") "__get__") (some (some (.builtin "getset_descriptor.__get__"))) && (decide (PySem.W.takesIn K (.builtin "object.__class__") = some true) && decide (PySem.W.mroIn K C (.type "object") = some true)))
def fa : List FaK := [
  fun K => glos.all fun x => (He.Fa.glo x).ok K,
  fun K => frees.all fun x => (He.Fa.free x).ok K,
  fun K => owns.all fun x => (He.Fa.cls x).ok K && ((He.Fa.mkr x).ok K && insB K (He.ga K x)),
  fun K => atts.all fun q => (He.Fa.noat q.1 q.2).ok K,
  fun K => mets.all fun q => (He.Fa.meth q.1 q.2).ok K,
  fun K => oprs.all fun q => opiB K (He.ga K q.1) q.2,
  fun K => excs.all fun q => exkB K (He.ga K q.1) && (oexB K (He.ga K q.1) && (He.eqO (PySem.W.findIn K (.ref (He.ga K q.1)) "__init__") (some (some (.ref (He.ma K (He.ga K q.1) "__init__")))) && (decide (PySem.W.typeIn K (.ref (He.ma K (He.ga K q.1) "__init__")) = some (.type "function")) &&
    q.2.all fun f => He.eqO (PySem.W.findIn K (.ref (He.ga K q.1)) f) (some none)))),
  kits,
  fun K => He.eqO (PySem.W.nsIn K mainGlobals "gcd") (some (some (.builtin "math.gcd"))),
  fun K => (([("Straight", .type "int"), ("Straight", .type "str"), ("Place", .type "int"), ("Place", .type "str"), ("Straight", .ref (He.ga K "Place")), ("Place", .ref (He.ga K "Straight")), ("Place", .ref (He.ga K "Place")), ("Straight", .ref (He.ga K "Straight"))] : List (Str × Value)).all fun q => PySem.W.notFirst K (He.ga K q.1) q.2),
  fun K => decide (PySem.W.exmOne K (.ref (He.ga K "BadNumber")) (.ref (He.ga K "BadNumber")) = some true)]
abbrev R : PySem.W.OpenRow := PySem.W.OpenLaw.row PySem.Challenge.rw_loopsize_k20_places_in_least_form
abbrev hk : PySem.W.Hook := hookX 5 fa fn
def ob (s : PySem.W.SharedT) : He.AlD := obsXG 5 fa fn (HandSHeadRun.getT s)
theorem ob_eq (s : PySem.W.SharedT) : ob s = hk.obs s.abs := obsXG_eq (HandSHeadRun.getT_eq s)
def names0 : List Str := ["LoopError", "BadNumber", "is_integer", "Straight", "Place", "is_straight", "straight_like", "value_of"]
def names1 : List Str := ["added", "replaced_straight", "_law_pen", "_law_draw", "_law_big", "_law_between", "_law_far", "_law_integer"]
def names2 : List Str := ["_law_divisor", "_law_place_due", "_law_refused_divisor", "_law_moved_right", "_law_place_right"]
def names : List Str := names0 ++ names1 ++ names2
end K20

set_option maxHeartbeats 4000000
namespace K20
open PySem PySem.Spec PyProof.Rows L2 Z
/-! ### what the text has written -/
abbrev FnP (K : PySem.W.Frag) (x : Str) (st : Stmt) (f : Addr) (fd : FuncData) : Prop := FunD K x x (defArgs st) (defBody st) (defScope st) [] [] f fd
/-- the built-in names that are still their own -/
structure Bt (mg : Str → Option Value) : Prop where
  int : mg "int" = none
  len : mg "len" = none
  list : mg "list" = none
section
variable {P : Program} {w : World} {K : PySem.W.Frag} {mg : Str → Option Value} {base : Heap}
theorem sc_law_pen : FnScope ["_law_script"] ["_law_script"] (defScope s_law_pen) := ⟨rfl, rfl, rfl, by decide +kernel, rfl, by decide +kernel, by decide +kernel⟩
theorem ok_pen {f : Addr} {fd : FuncData} (F : FnP K "_law_pen" s_law_pen f fd) (T : Bt mg) : FnOk P w K mg base CX0 1 f fd ["_law_script"] (spPen K) := by
  refine F.ok sc_law_pen (fun vs H Q E h => ?_) (fun cdv A outer s H vs Q E hr h => ?_)
  · obtain ⟨a, ns, rfl, _⟩ := h
    rfl
  · obtain ⟨a, ns, rfl, hS, hl, k⟩ := h
    have hu := hu_of hr
    refine ⟨_, PSs.nox (pss_one (ps_ret (pe_disp (pps_cons pe_str (pe_callTy call_list_of (by rfl) T.list (by decide +kernel) (pa_cons (pe_slice sl_list (pv 0) po_none (po_some pe_int)) pa_nil)) (pps_cons pe_str pe_int (pps_cons pe_str pe_int pps_nil))) (by rfl) (by rfl) (fun z => by cases z) (by decide)))), ?_⟩
    intro p hp
    refine ⟨_, rfl, _, rfl, a, ns.map V.int, rfl, ?_, fun q hq => ⟨q, _, rfl, .inl (SqL.of upd_same), fun l hl2 => ?_⟩⟩
    · exact Same.seq (Same.new _ (Same.refl H) hp) hS
    have npq : p ≠ q := fun z => by
      rw [← z, upd_same] at hq
      cases hq
    have npl : p ≠ l := fun z => by
      rw [← z, upd_ne npq, upd_same] at hl2
      cases hl2
    refine ⟨(by rw [upd_ne npl, upd_ne npq, upd_same]), penK l 0 0, rfl, (by show 3 ≤ 15; decide), ?_⟩
    have em : mergeK [] (penK l 0 0) = penK l 0 0 := by
      show putK (putK (putK [] (Sum.inr "cells" : Key) (.ref l)) (Sum.inr "at" : Key) (.int 0)) (Sum.inr "left" : Key) (.int 0) = penK l 0 0
      have e1 : putK ([] : List (Key × V)) (Sum.inr "cells" : Key) (.ref l) = [((Sum.inr "cells" : Key), V.ref l)] := putK_new (kvs := []) _ rfl
      have e2 : putK [((Sum.inr "cells" : Key), V.ref l)] (Sum.inr "at" : Key) (.int 0) = [((Sum.inr "cells" : Key), V.ref l), (Sum.inr "at", V.int 0)] := putK_new _ (by
        rw [valV_neg (key_ne ca_)]
        rfl)
      have e3 : putK [((Sum.inr "cells" : Key), V.ref l), (Sum.inr "at", V.int 0)] (Sum.inr "left" : Key) (.int 0) = penK l 0 0 := putK_new _ (by
        rw [valV_neg (key_ne cl_), valV_neg (key_ne al_)]
        rfl)
      rw [e1, e2, e3]
    rw [em]
    have hc : (cutV (ns.map V.int) none (some 63)) = (ns.map V.int) := by
      unfold cutV
      have e1 : HT.sIx (ns.map V.int).length 0 none = 0 := HT.sIx_none _ _
      have e2 : HT.sIx (ns.map V.int).length (ns.map V.int).length (some 63) = min 63 (ns.map V.int).length := HT.sIx_nat _ _ 63
      rw [e1, e2, List.drop_zero, List.length_map, Nat.sub_zero, Nat.min_eq_right hl, ← List.length_map (f := V.int), List.take_length]
    rw [hc]
    refine k _ p (fun b o e => ?_) hp ⟨l, ns, 0, 0, upd_same, by rw [upd_ne npl.symm, upd_same], hl, Int.le_refl 0, Int.le_refl 0, Int.le_refl 0⟩
    have nbp : b ≠ p := ne_of_none e hp
    have nbq : b ≠ q := fun z => by
      rw [← z, upd_ne nbp] at hq
      rw [hq] at e
      cases e
    have nbl : b ≠ l := fun z => by
      rw [← z, upd_ne nbq, upd_ne nbp] at hl2
      rw [hl2] at e
      cases e
    rw [upd_ne nbp, upd_ne nbl, upd_ne nbq, upd_ne nbp]
    exact e
theorem sc_law_draw : FnScope ["_law_pen_here", "_law_many", "_law_digit", "_law_spot", "_law_cell", "_law_mixed"] ["_law_pen_here", "_law_many"] (defScope s_law_draw) := ⟨rfl, rfl, rfl, by decide +kernel, rfl, by decide +kernel, by decide +kernel⟩
theorem ok_draw {f : Addr} {fd : FuncData} (F : FnP K "_law_draw" s_law_draw f fd) (T : Bt mg) : FnOk P w K mg base CX0 1 f fd ["_law_pen_here", "_law_many"] spDraw := by
  refine F.ok sc_law_draw (fun vs H Q E h => ?_) (fun cdv A outer s H vs Q E hr h => ?_)
  · obtain ⟨p, m, t, rfl, _⟩ := h
    rfl
  · obtain ⟨p, m, t, rfl, hm, hm2, ht, hP, k⟩ := h
    obtain ⟨c, ns, a, l, h1, h2, h3, h4, h5, h6⟩ := id hP
    have hu := hu_of hr
    have m0 : m ≠ 0 := by omega
    have mb : m.natAbs < 1073741824 := by omega
    have ncp : c ≠ p := ne_of h2 h1 lst_ne_dK
    have z1 : (2147483629 : Int) ≠ 0 := by decide
    have z2 : (2147483647 : Int) ≠ 0 := by decide
    have z3 : (2147483587 : Int) ≠ 0 := by decide
    have z4 : (2147483563 : Int) ≠ 0 := by decide
    refine ⟨_, PSs.nox (pss_cons (ps_if (pt_cmpR op_ge (pe_dget hu (pv 0) pe_str (fun _ _ => rfl)) (pv 1) (nomark _)) (pss_cons (ps_set (i := 2) sc_law_draw.nd rfl (Or.inl rfl) (pe_op op_modN (pe_callTy call_int1 (by rfl) T.int (by decide +kernel) (pa_cons (pe_dget hu (pv 0) pe_str (fun _ _ => rfl)) pa_nil)) (pv 1)))
      (pss_cons (ps_dput hu (pv 0) pe_str (pe_op op_fdivN (pe_dget hu (pv 0) pe_str (fun _ _ => rfl)) (pv 1)) rfl)
      (pss_one (ps_ret (pv 2))))) pss_nil)
      (pss_cons (ps_set (i := 3) sc_law_draw.nd rfl (Or.inl rfl) (pe_dget hu (pv 0) pe_str (fun _ _ => rfl)))
      (pss_cons (ps_dput hu (pv 0) pe_str (pe_op op_add (pv 3) pe_int) rfl)
      (pss_cons (ps_if (pt_cmpR (op_eqD hr.units) (pe_dget hu (pv 0) pe_str (fun _ _ => rfl)) (pe_lst pa_nil) (nomark _)) (pss_one (ps_ret (pe_op op_modN (pe_callTy call_int1 (by rfl) T.int (by decide +kernel) (pa_cons (pe_op op_add (pe_op op_mul pe_int (pv 3)) pe_int) pa_nil)) (pv 1)))) pss_nil)
      (pss_cons (ps_set (i := 4) sc_law_draw.nd rfl (Or.inl rfl) (pe_ix ix_list (pe_dget hu (pv 0) pe_str (fun _ _ => rfl)) (pe_op op_modN (pe_callTy call_int1 (by rfl) T.int (by decide +kernel) (pa_cons (pv 3) pa_nil)) (pe_callB call_len_seq (by rfl) T.len PySem.boot_len (pa_cons (pe_dget hu (pv 0) pe_str (fun _ _ => rfl)) pa_nil))) (fun _ _ => rfl)))
      (pss_cons (ps_if (PW.pt (pw_and (pt_cmpR op_lt (pv 3) (pe_callB call_len_seq (by rfl) T.len PySem.boot_len (pa_cons (pe_dget hu (pv 0) pe_str (fun _ _ => rfl)) pa_nil)) (nomark _)) (pw_and1 (pt_cmpR op_ge (pv 4) (pe_op op_pow pe_int pe_int) (nomark _))))) (pss_cons (ps_dput hu (pv 0) pe_str (pe_op op_fdivN (pe_op op_sub (pv 4) (pe_op op_pow pe_int pe_int)) (pv 1)) rfl)
      (pss_one (ps_ret (pe_op op_modN (pe_callTy call_int1 (by rfl) T.int (by decide +kernel) (pa_cons (pe_op op_sub (pv 4) (pe_op op_pow pe_int pe_int)) pa_nil)) (pv 1))))) pss_nil)
      (pss_cons (ps_set (i := 5) sc_law_draw.nd rfl (Or.inl rfl) (pe_op op_add (pe_op op_add (pe_op op_mul (pe_op op_add (pe_op op_modN (pe_callTy call_int1 (by rfl) T.int (by decide +kernel) (pa_cons (pv 4) pa_nil)) pe_int) pe_int) (pe_op op_add (pe_op op_mul pe_int (pv 3)) pe_int)) (pe_op op_mul (pe_op op_mul pe_int (pv 3)) (pv 3))) pe_int))
      (pss_cons (ps_set (i := 5) sc_law_draw.nd rfl (Or.inl rfl) (pe_op op_modN (pe_callTy call_int1 (by rfl) T.int (by decide +kernel) (pa_cons (pv 5) pa_nil)) pe_int))
      (pss_cons (ps_set (i := 5) sc_law_draw.nd rfl (Or.inl rfl) (pe_op op_modN (pe_callTy call_int1 (by rfl) T.int (by decide +kernel) (pa_cons (pe_op op_mul (pv 5) (pe_op op_add (pv 5) pe_int)) pa_nil)) pe_int))
      (pss_cons (ps_set (i := 5) sc_law_draw.nd rfl (Or.inl rfl) (pe_op op_modN (pe_callTy call_int1 (by rfl) T.int (by decide +kernel) (pa_cons (pe_op op_mul (pv 5) (pv 5)) pa_nil)) pe_int))
      (pss_one (ps_ret (pe_op op_modN (pe_callTy call_int1 (by rfl) T.int (by decide +kernel) (pa_cons (pe_op op_fdivN (pv 5) pe_int) pa_nil)) (pv 1)))))))))))))), ?_⟩
    refine ⟨_, rfl, p, _, rfl, pen_left h1, _, rfl, _, _, rfl, rfl, _, rfl, ?_⟩
    refine ite2 (fun _ => ?_) (fun _ => ?_)
    · refine ⟨_, rfl, p, _, rfl, pen_left h1, .inl ⟨_, rfl, _, rfl, _, _, rfl, rfl, m0, ?_⟩⟩
      refine ⟨_, rfl, p, _, rfl, pen_left h1, _, rfl, _, _, rfl, rfl, ⟨m0, mb⟩, _, rfl, p, _, rfl, pen_put_left _ h1, ?_⟩
      refine ⟨_, rfl, ?_⟩
      exact k _ _ (fmod_range hm).1 (fmod_range hm).2 ⟨c, ns, a, _, upd_same, by rw [upd_ne ncp]; exact h2, h3, h4, by omega, fdiv_nn h6 hm⟩ (Keep.upd _ (Keep.refl p H))
    · -- spot, at + 1
      refine ⟨_, rfl, p, _, rfl, pen_at h1, ?_⟩
      refine ⟨_, rfl, _, _, rfl, rfl, _, rfl, p, _, rfl, pen_put_at _ h1, ?_⟩
      have g1 : ∀ b, (upd H p (.dK (penK c (a + 1) b))) p = some (.dK (penK c (a + 1) b)) := fun b => upd_same
      have g2 : ∀ o, (upd H p o) c = some (.lst (ns.map V.int)) := fun o => by rw [upd_ne ncp]; exact h2
      have kE : ∀ o, Keep p H (upd H p o) := fun o => Keep.upd _ (Keep.refl p H)
      -- cells == []
      refine ⟨_, rfl, p, _, rfl, pen_cells (g1 _), Nat.zero_le _, fun e he => ?_⟩
      have nep : e ≠ p := fun z => by
        rw [z, upd_same] at he
        cases he
      have nec : e ≠ c := fun z => by
        rw [z, g2] at he
        cases he
      have g1' : ∀ o, (upd (upd H p (.dK (penK c (a + 1) l))) e o) p = some (.dK (penK c (a + 1) l)) := fun o => by rw [upd_ne nep.symm, upd_same]
      have g2' : ∀ o, (upd (upd H p (.dK (penK c (a + 1) l))) e o) c = some (.lst (ns.map V.int)) := fun o => by rw [upd_ne nec.symm]; exact g2 _
      have kE' : ∀ o, Keep p H (upd (upd H p (.dK (penK c (a + 1) l))) e o) := fun o => Keep.new _ (kE _) he
      have pen' : ∀ o, Pen (upd (upd H p (.dK (penK c (a + 1) l))) e o) p (t + 1) := fun o => ⟨c, ns, a + 1, l, g1' _, g2' _, h3, by omega, by omega, h6⟩
      refine ⟨.list (ns.map PyData.int), .list [], .lst (SqL.of (g2' _)) (dpAll_ints ns), .lst (SqL.of upd_same) .nil, shaped_ints ns, shaped_nil, _, rfl, ?_⟩
      rw [eqv_ints_nil]
      refine ite2 (fun hc => ?_) (fun hc => ?_)
      · refine ⟨_, rfl, _, _, rfl, rfl, .inl ⟨by decide, by decide⟩, _, _, rfl, rfl, .inl ⟨_, rfl, _, rfl, _, _, rfl, rfl, m0, ?_⟩⟩
        exact k _ _ (fmod_range hm).1 (fmod_range hm).2 (pen' _) (kE' _)
      · have hpos : 0 < ns.length := by
          cases ns with
          | nil => exact absurd rfl hc
          | cons n ns => exact Nat.succ_pos _
        have hposI : (0 : Int) < ((ns.map V.int).length : Int) := by
          rw [List.length_map]
          omega
        have fr := fmod_range (x := a) hposI
        obtain ⟨j, hj⟩ : ∃ j : Nat, a.fmod ((ns.map V.int).length : Int) = (j : Int) := ⟨(a.fmod ((ns.map V.int).length : Int)).toNat, by omega⟩
        have hjl : j < ns.length := by
          have z := fr.2
          rw [hj, List.length_map] at z
          omega
        refine ⟨_, rfl, p, _, rfl, pen_cells (g1' _), _, rfl, .inl ⟨_, rfl, _, rfl, p, _, rfl, pen_cells (g1' _), c, _, rfl, .inl (SqL.of (g2' _)), _, _, rfl, rfl, by omega, ?_⟩⟩
        refine ⟨c, _, (j : Int), _, rfl, congrArg V.int hj, SqL.of (g2' _), atI_nat (get_ints hjl), ?_⟩
        generalize hz : ns[j]'hjl = z
        -- spot < len(cells) and cell >= 10 ** 18
        refine ⟨_, rfl, _, rfl, p, _, rfl, pen_cells (g1' _), c, _, rfl, .inl (SqL.of (g2' _)), _, _, rfl, rfl, _, rfl, ?_⟩
        refine ite2 (fun _ => ?_) (fun _ => iteF ?_)
        · refine ⟨_, rfl, _, _, rfl, rfl, ⟨by decide, by decide, by decide⟩, _, _, rfl, rfl, _, rfl, ?_⟩
          refine ite2 (fun hz18 => ?_) (fun _ => ?_)
          · refine ⟨_, rfl, _, _, rfl, rfl, ⟨by decide, by decide, by decide⟩, _, _, rfl, rfl, _, rfl, _, _, rfl, rfl, ⟨m0, mb⟩, _, rfl, p, _, rfl, pen_put_left _ (g1' _), ?_⟩
            refine ⟨_, rfl, _, _, rfl, rfl, ⟨by decide, by decide, by decide⟩, _, _, rfl, rfl, .inl ⟨_, rfl, _, rfl, _, _, rfl, rfl, m0, ?_⟩⟩
            have hz0 : (0 : Int) ≤ z - 10 ^ (18 : Int).toNat := Int.sub_nonneg_of_le (of_decide_eq_true hz18)
            exact k _ _ (fmod_range hm).1 (fmod_range hm).2 ⟨c, ns, a + 1, _, upd_same, by rw [upd_ne ncp]; exact g2' _, h3, by omega, by omega, fdiv_nn hz0 hm⟩ (Keep.upd _ (kE' _))
          · refine ⟨_, rfl, .inl ⟨_, rfl, _, _, rfl, rfl, z1, _, _, rfl, rfl, _, rfl, _, _, rfl, rfl, .inl ⟨by decide, by decide⟩, _, _, rfl, rfl, _, _, rfl, rfl, .inl (mul_okf1 (by decide) (by decide)), ?_⟩⟩
            refine ⟨_, rfl, _, _, rfl, rfl, .inl ⟨by decide, by decide⟩, _, rfl, _, _, rfl, rfl, .inr ⟨by omega, by omega⟩, _, _, rfl, rfl, _, _, rfl, rfl, ?_⟩
            refine ⟨_, rfl, .inl ⟨_, rfl, _, _, rfl, rfl, z2, ?_⟩⟩
            refine ⟨_, rfl, _, rfl, _, _, rfl, rfl, _, _, rfl, rfl, .inl (mul_okf (by decide) (by decide)), .inl ⟨_, rfl, _, _, rfl, rfl, z3, ?_⟩⟩
            refine ⟨_, rfl, _, rfl, _, _, rfl, rfl, .inl (mul_okf (by decide) (by decide)), .inl ⟨_, rfl, _, _, rfl, rfl, z4, ?_⟩⟩
            refine ⟨_, rfl, _, _, rfl, rfl, ⟨by decide, by decide⟩, .inl ⟨_, rfl, _, rfl, _, _, rfl, rfl, m0, ?_⟩⟩
            exact k _ _ (fmod_range hm).1 (fmod_range hm).2 (pen' _) (kE' _)
        · refine ⟨_, rfl, .inl ⟨_, rfl, _, _, rfl, rfl, z1, _, _, rfl, rfl, _, rfl, _, _, rfl, rfl, .inl ⟨by decide, by decide⟩, _, _, rfl, rfl, _, _, rfl, rfl, .inl (mul_okf1 (by decide) (by decide)), ?_⟩⟩
          refine ⟨_, rfl, _, _, rfl, rfl, .inl ⟨by decide, by decide⟩, _, rfl, _, _, rfl, rfl, .inr ⟨by omega, by omega⟩, _, _, rfl, rfl, _, _, rfl, rfl, ?_⟩
          refine ⟨_, rfl, .inl ⟨_, rfl, _, _, rfl, rfl, z2, ?_⟩⟩
          refine ⟨_, rfl, _, rfl, _, _, rfl, rfl, _, _, rfl, rfl, .inl (mul_okf (by decide) (by decide)), .inl ⟨_, rfl, _, _, rfl, rfl, z3, ?_⟩⟩
          refine ⟨_, rfl, _, rfl, _, _, rfl, rfl, .inl (mul_okf (by decide) (by decide)), .inl ⟨_, rfl, _, _, rfl, rfl, z4, ?_⟩⟩
          refine ⟨_, rfl, _, _, rfl, rfl, ⟨by decide, by decide⟩, .inl ⟨_, rfl, _, rfl, _, _, rfl, rfl, m0, ?_⟩⟩
          exact k _ _ (fmod_range hm).1 (fmod_range hm).2 (pen' _) (kE' _)
end
end K20

set_option maxHeartbeats 4000000
namespace K20
open PySem PySem.Spec PyProof.Rows L2 Z
/-! ### sums: each def keeps its promise -/
abbrev FnM (K : PySem.W.Frag) (C m q : Str) (st : Stmt) (fd : FuncData) : Prop := FunD K m q (defArgs st) (defBody st) (defScope st) [] [] (He.ma K (He.ga K C) m) fd
section
variable {P : Program} {w : World} {K : PySem.W.Frag} {mg : Str → Option Value} {base : Heap}
/-- what may be called as Straight(a, b, c) -/
def MkS (P : Program) (w : World) (K : PySem.W.Frag) (mg : Str → Option Value) (base : Heap) : Prop := ∃ fd, FnOk P w K mg base CX0 1 (He.ma K (CS K) "__init__") fd ["self", "i", "n", "one"] (spSI K) ∧ Binds K fd ["self", "i", "n", "one"] []
theorem scStraight__init__ : FnScope ["self", "i", "n", "one"] ["self", "i", "n", "one"] (defScope iStraight__init__) := ⟨rfl, rfl, rfl, by decide +kernel, rfl, by decide +kernel, by decide +kernel⟩
theorem mk_S {fd : FuncData} (T : StTx K mg) (F : FnM K "Straight" "__init__" "Straight.__init__" iStraight__init__ fd) : MkS P w K mg base := by
  refine ⟨fd, ?_, F.bindsN fun _ _ _ _ _ _ us hl => match us, hl with | [_, _, _, _], _ => rfl⟩
  refine F.ok scStraight__init__ (fun vs H Q E h => ?_) (fun cdv A outer s H vs Q E hr h => ?_)
  · obtain ⟨p, dx, a, b, c, rfl, _⟩ := h
    rfl
  · obtain ⟨p, dx, a, b, c, rfl, hp, k⟩ := h
    refine ⟨_, PSs.nox (pss_cons (ps_fld (pv 0) (pv 1) rfl)
      (pss_cons (ps_fld (pv 0) (pv 2) rfl)
      (pss_one (ps_fld (pv 0) (pv 3) rfl)))), ?_⟩
    refine ⟨_, rfl, _, rfl, p, _, dx, [], rfl, hp, T.clS, T.nI, (by show 0 < 1000; decide), ?_⟩
    refine ⟨_, rfl, _, rfl, p, _, dx, _, rfl, upd_same, T.clS, T.nN, (by show 1 < 1000; decide), ?_⟩
    refine ⟨_, rfl, _, rfl, p, _, dx, _, rfl, upd_same, T.clS, T.nO, len2 _ _ _ _, ?_⟩
    exact k _ upd_same (fun b o nb e => by rw [upd_ne nb, upd_ne nb, upd_ne nb]; exact e)
theorem pe_S {X : Cx} {e : Expr} {es : List Expr} {t : TA} {p pos : Pos} {k : Nat} (T : StTx X.K X.mg) (M : MkS X.prog X.w X.K X.mg X.base) (hr : Room k X.A) (ha : PA X (e :: es) t) (hk : 2 ≤ k := by decide) (hg : Gl X "Straight" := by rfl)
    (he : starEach (e :: es) X.env = (false, eval e X.env) :: starEach es X.env := by rfl) (hpl : (backTo pos (starEach es X.env)).any (·.1) = false := by rfl) :
    PE X (.Call (.Name "Straight" p) (e :: es) [] pos) (fun σ H Q => t σ H fun vs H1 => ∃ a b c, vs = [.int a, .int b, .int c] ∧ NewS X.K H1 a b c Q) := by
  obtain ⟨fd, F, hb⟩ := M
  refine ⟨fun pins s σ H Q I h => ?_⟩
  refine wpAny_Call_Name_kw (ld_glob I hg T.gS ?_ (by decide))
  refine PySem.W.callWith_K (h₀ := X.base) I.ok.mod.kin T.mkS.kp (thn (ha.run pos pins s σ H _ I h) fun us s1 ⟨vs, H1, I1, r, a, b, c, ev, q⟩ => ⟨I1.kIn, ?_⟩) he hpl
  subst ev
  exact run_make T.mkS F (hr.mono hk) hb .nil pass0 I1 r fun x dx nx nd ne => ⟨x, dx, a, b, c, rfl, upd_same, fun H' hx kp => ⟨rfl, q x H' (Same.made (Same.refl H1) nx nd kp) nx ⟨dx, hx⟩⟩⟩
theorem sc_is_integer : FnScope ["value"] ["value"] (defScope s_is_integer) := ⟨rfl, rfl, rfl, by decide +kernel, rfl, by decide +kernel, by decide +kernel⟩
theorem ok_isInt {f : Addr} {fd : FuncData} (F : FnP K "is_integer" s_is_integer f fd) (T : StTx K mg) : FnOk P w K mg base CX0 1 f fd ["value"] (spIsInt K) := by
  refine F.ok sc_is_integer (fun vs H Q E h => ?_) (fun cdv A outer s H vs Q E hr h => ?_)
  · obtain ⟨v, rfl, _⟩ := h
    rfl
  · obtain ⟨v, rfl, h⟩ := h
    refine ⟨_, PSs.nox (pss_one (ps_ret (pe_and (pe_callB call_isi (by rfl) T.isi (by decide +kernel) (pa_cons (pv 0) (pa_cons (pe_bltn (v := .ty "int") (by rfl) T.int (by decide +kernel) rfl) pa_nil))) (pe_one (pe_not (pe_callB call_isi (by rfl) T.isi (by decide +kernel) (pa_cons (pv 0) (pa_cons (pe_bltn (v := .ty "bool") (by rfl) T.bool (by decide +kernel) rfl) pa_nil)))))))), ?_⟩
    rcases h with ⟨i, rfl, q⟩ | ⟨p, a, b, c, rfl, hp, q⟩
    · refine ⟨_, rfl, _, _, _, _, _, rfl, .ty _, .base (.int i), kii, _, rfl, iteT ?_⟩
      exact ⟨_, rfl, _, _, _, _, _, rfl, .ty _, .base (.int i), kib, _, rfl, q⟩
    · exact ⟨_, rfl, _, _, _, _, _, rfl, .ty _, .base (T.ty hp), T.kSi, _, rfl, iteF q⟩
theorem sc_is_straight : FnScope ["value"] ["value"] (defScope s_is_straight) := ⟨rfl, rfl, rfl, by decide +kernel, rfl, by decide +kernel, by decide +kernel⟩
theorem ok_isStr {f : Addr} {fd : FuncData} (F : FnP K "is_straight" s_is_straight f fd) (T : StTx K mg) (dIsInt : Dn P w K mg base 1 "is_integer" ["value"] (spIsInt K)) : FnOk P w K mg base CX0 2 f fd ["value"] (spIsStr K) := by
  refine F.ok sc_is_straight (fun vs H Q E h => ?_) (fun cdv A outer s H vs Q E hr h => ?_)
  · obtain ⟨v, _, _, _, rfl, _⟩ := h
    rfl
  · obtain ⟨v, a, b, c, rfl, h, q⟩ := h
    refine ⟨_, PSs.nox (pss_one (ps_ret (pe_or (pe_dn dIsInt hr (pa_cons (pv 0) pa_nil)) (pe_one (pe_callB call_isi (by rfl) T.isi (by decide +kernel) (pa_cons (pv 0) (pa_cons (pe_glob (v := .ref (CS K)) rfl T.gS rfl) pa_nil))))))), ?_⟩
    rcases h with ⟨p, rfl, hp⟩ | ⟨rfl, _, _⟩
    · refine ⟨_, rfl, _, rfl, .inr ⟨p, a, b, c, rfl, hp, _, rfl, iteF ?_⟩⟩
      exact ⟨_, rfl, _, _, _, _, _, rfl, .own _, .base (T.ty hp), T.kSS, q⟩
    · exact ⟨_, rfl, _, rfl, .inl ⟨c, rfl, _, rfl, iteT q⟩⟩
theorem sc_straight_like : FnScope ["value"] ["value"] (defScope s_straight_like) := ⟨rfl, rfl, rfl, by decide +kernel, rfl, by decide +kernel, by decide +kernel⟩
theorem ok_like {f : Addr} {fd : FuncData} (F : FnP K "straight_like" s_straight_like f fd) (T : StTx K mg) (M : MkS P w K mg base) : FnOk P w K mg base CX0 3 f fd ["value"] (spLike K) := by
  refine F.ok sc_straight_like (fun vs H Q E h => ?_) (fun cdv A outer s H vs Q E hr h => ?_)
  · obtain ⟨v, _, _, _, rfl, _⟩ := h
    rfl
  · obtain ⟨v, a, b, c, rfl, h, q⟩ := h
    refine ⟨_, PSs.nox (pss_one (ps_ret (pe_ifExp (pt_val (pe_callB call_isi (by rfl) T.isi (by decide +kernel) (pa_cons (pv 0) (pa_cons (pe_glob (v := .ref (CS K)) rfl T.gS rfl) pa_nil)))) (pv 0) (pe_S T M hr (pa_cons pe_int (pa_cons pe_int (pa_cons (pv 0) pa_nil))))))), ?_⟩
    rcases h with ⟨p, rfl, hp⟩ | ⟨rfl, rfl, rfl⟩
    · refine ⟨_, rfl, _, _, _, _, _, rfl, .own _, .base (T.ty hp), T.kSS, _, rfl, iteT ?_⟩
      exact ⟨_, rfl, q p H (Same.refl H) hp⟩
    · refine ⟨_, rfl, _, _, _, _, _, rfl, .own _, .base (.int c), T.kiS, _, rfl, iteF ?_⟩
      exact ⟨_, rfl, 0, 0, c, rfl, fun p H' s _ hp => q p H' s hp⟩
theorem sc_value_of : FnScope ["straight", "i", "n"] ["straight", "i", "n"] (defScope s_value_of) := ⟨rfl, rfl, rfl, by decide +kernel, rfl, by decide +kernel, by decide +kernel⟩
theorem ok_val {f : Addr} {fd : FuncData} (F : FnP K "value_of" s_value_of f fd) (T : StTx K mg) : FnOk P w K mg base CX0 1 f fd ["straight", "i", "n"] (spVal K) := by
  refine F.ok sc_value_of (fun vs H Q E h => ?_) (fun cdv A outer s H vs Q E hr h => ?_)
  · obtain ⟨p, a, b, c, i, n, rfl, _⟩ := h
    rfl
  · obtain ⟨p, a, b, c, i, n, rfl, ⟨dx, hp⟩, sa, sb, q⟩ := h
    refine ⟨_, PSs.nox (pss_one (ps_ret (pe_op op_add (pe_op op_add (pe_op op_mul (pe_fld (pv 0) rfl) (pv 1)) (pe_op op_mul (pe_fld (pv 0) rfl) (pv 2))) (pe_fld (pv 0) rfl)))), ?_⟩
    refine ⟨_, rfl, p, _, dx, _, _, rfl, hp, T.clS, T.nI, sf_i _ _ _, _, rfl, _, _, rfl, rfl, .inl sa, ?_⟩
    refine ⟨_, rfl, p, _, dx, _, _, rfl, hp, T.clS, T.nN, sf_n _ _ _, _, rfl, _, _, rfl, rfl, .inl sb, _, _, rfl, rfl, ?_⟩
    exact ⟨_, rfl, p, _, dx, _, _, rfl, hp, T.clS, T.nO, sf_one _ _ _, _, _, rfl, rfl, q⟩
theorem sc_added : FnScope ["one", "other", "sign"] ["one", "other", "sign"] (defScope s_added) := ⟨rfl, rfl, rfl, by decide +kernel, rfl, by decide +kernel, by decide +kernel⟩
theorem ok_added {f : Addr} {fd : FuncData} (F : FnP K "added" s_added f fd) (T : StTx K mg) (M : MkS P w K mg base) : FnOk P w K mg base CX0 3 f fd ["one", "other", "sign"] (spAdded K) := by
  refine F.ok sc_added (fun vs H Q E h => ?_) (fun cdv A outer s H vs Q E hr h => ?_)
  · obtain ⟨p, q, a, b, c, x, y, z, s, rfl, _⟩ := h
    rfl
  · obtain ⟨p, q, a, b, c, x, y, z, s, rfl, ⟨dx, hp⟩, ⟨dy, hq⟩, ss, k⟩ := h
    refine ⟨_, PSs.nox (pss_one (ps_ret (pe_S T M hr (pa_cons (pe_op op_add (pe_fld (pv 0) rfl) (pe_op op_mul (pv 2) (pe_fld (pv 1) rfl))) (pa_cons (pe_op op_add (pe_fld (pv 0) rfl) (pe_op op_mul (pv 2) (pe_fld (pv 1) rfl))) (pa_cons (pe_op op_add (pe_fld (pv 0) rfl) (pe_op op_mul (pv 2) (pe_fld (pv 1) rfl))) pa_nil)))))), ?_⟩
    refine ⟨_, rfl, p, _, dx, _, _, rfl, hp, T.clS, T.nI, sf_i _ _ _, _, rfl, _, rfl, q, _, dy, _, _, rfl, hq, T.clS, T.nI, sf_i _ _ _, _, _, rfl, rfl, .inl ss, _, _, rfl, rfl, ?_⟩
    refine ⟨_, rfl, p, _, dx, _, _, rfl, hp, T.clS, T.nN, sf_n _ _ _, _, rfl, _, rfl, q, _, dy, _, _, rfl, hq, T.clS, T.nN, sf_n _ _ _, _, _, rfl, rfl, .inl ss, _, _, rfl, rfl, ?_⟩
    refine ⟨_, rfl, p, _, dx, _, _, rfl, hp, T.clS, T.nO, sf_one _ _ _, _, rfl, _, rfl, q, _, dy, _, _, rfl, hq, T.clS, T.nO, sf_one _ _ _, _, _, rfl, rfl, .inl ss, _, _, rfl, rfl, ?_⟩
    exact ⟨_, _, _, rfl, k⟩
theorem sc_replaced_straight : FnScope ["straight", "factor", "shift"] ["straight", "factor", "shift"] (defScope s_replaced_straight) := ⟨rfl, rfl, rfl, by decide +kernel, rfl, by decide +kernel, by decide +kernel⟩
theorem ok_repl {f : Addr} {fd : FuncData} (F : FnP K "replaced_straight" s_replaced_straight f fd) (T : StTx K mg) (M : MkS P w K mg base) : FnOk P w K mg base CX0 3 f fd ["straight", "factor", "shift"] (spRepl K) := by
  refine F.ok sc_replaced_straight (fun vs H Q E h => ?_) (fun cdv A outer s H vs Q E hr h => ?_)
  · obtain ⟨p, a, b, c, f, g, rfl, _⟩ := h
    rfl
  · obtain ⟨p, a, b, c, f, g, rfl, ⟨dx, hp⟩, sa, k⟩ := h
    refine ⟨_, PSs.nox (pss_one (ps_ret (pe_S T M hr (pa_cons (pe_op op_mul (pe_fld (pv 0) rfl) (pv 1)) (pa_cons (pe_fld (pv 0) rfl) (pa_cons (pe_op op_add (pe_fld (pv 0) rfl) (pe_op op_mul (pe_fld (pv 0) rfl) (pv 2))) pa_nil)))))), ?_⟩
    refine ⟨_, rfl, p, _, dx, _, _, rfl, hp, T.clS, T.nI, sf_i _ _ _, _, rfl, _, _, rfl, rfl, .inl sa, ?_⟩
    refine ⟨_, rfl, p, _, dx, _, _, rfl, hp, T.clS, T.nN, sf_n _ _ _, ?_⟩
    refine ⟨_, rfl, p, _, dx, _, _, rfl, hp, T.clS, T.nO, sf_one _ _ _, _, rfl, p, _, dx, _, _, rfl, hp, T.clS, T.nI, sf_i _ _ _, _, rfl, _, _, rfl, rfl, .inl sa, _, _, rfl, rfl, ?_⟩
    exact ⟨_, _, _, rfl, k⟩
theorem scStraight__eq__ : FnScope ["self", "other"] ["self", "other"] (defScope iStraight__eq__) := ⟨rfl, rfl, rfl, by decide +kernel, rfl, by decide +kernel, by decide +kernel⟩
theorem om_SEq {fd : FuncData} (F : FnM K "Straight" "__eq__" "Straight.__eq__" iStraight__eq__ fd) (T : StTx K mg) (hm : Meth K (CS K) "__eq__" (He.ma K (CS K) "__eq__")) : Om P w K mg base (CS K) 1 "__eq__" (spSEq K) := by
  refine ⟨_, fd, ["self", "other"], ?_, hm.at_, hm.fn, F.bindsN fun _ _ _ _ _ _ us hl => match us, hl with | [_, _], _ => rfl⟩
  refine F.ok scStraight__eq__ (fun vs H Q E h => ?_) (fun cdv A outer s H vs Q E hr h => ?_)
  · obtain ⟨p, a, b, c, v, rfl, _⟩ := h
    rfl
  · obtain ⟨p, a, b, c, v, rfl, hS, h⟩ := h
    refine ⟨_, PSs.nox (pss_one (ps_ret (pe_and (pe_callB call_isi (by rfl) T.isi (by decide +kernel) (pa_cons (pv 1) (pa_cons (pe_glob (v := .ref (CS K)) rfl T.gS rfl) pa_nil))) (pe_and (pe_cmpR op_eq (pe_fld (pv 0) rfl) (pe_fld (pv 1) rfl) (nomark _)) (pe_and (pe_cmpR op_eq (pe_fld (pv 0) rfl) (pe_fld (pv 1) rfl) (nomark _)) (pe_one (pe_cmpR op_eq (pe_fld (pv 0) rfl) (pe_fld (pv 1) rfl) (nomark _)))))))), ?_⟩
    obtain ⟨dx, hp⟩ := id hS
    rcases h with ⟨q, x, y, z, rfl, hS2, k⟩ | ⟨t, ty, kt, k⟩
    · obtain ⟨dy, hq⟩ := id hS2
      refine ⟨_, rfl, _, _, _, _, _, rfl, .own _, .base (T.ty hS2), T.kSS, _, rfl, iteT ?_⟩
      refine ⟨_, rfl, p, _, dx, _, _, rfl, hp, T.clS, T.nI, sf_i _ _ _, _, rfl, q, _, dy, _, _, rfl, hq, T.clS, T.nI, sf_i _ _ _, rfl, _, rfl, ?_⟩
      by_cases h1 : a = x
      · subst h1
        rw [decide_eq_true rfl]
        refine iteT ?_
        refine ⟨_, rfl, p, _, dx, _, _, rfl, hp, T.clS, T.nN, sf_n _ _ _, _, rfl, q, _, dy, _, _, rfl, hq, T.clS, T.nN, sf_n _ _ _, rfl, _, rfl, ?_⟩
        by_cases h2 : b = y
        · subst h2
          rw [decide_eq_true rfl]
          refine iteT ?_
          refine ⟨_, rfl, p, _, dx, _, _, rfl, hp, T.clS, T.nO, sf_one _ _ _, _, rfl, q, _, dy, _, _, rfl, hq, T.clS, T.nO, sf_one _ _ _, rfl, ?_⟩
          have e : decide (V.int c = V.int z) = decide (a = a ∧ b = b ∧ c = z) := decide_eq_decide.mpr ⟨fun q => ⟨rfl, rfl, V.int.inj q⟩, fun q => by rw [q.2.2]⟩
          show Q (.bl (decide (V.int c = V.int z))) H
          rw [e]
          exact k
        · have e : decide (a = a ∧ b = y ∧ c = z) = false := decide_eq_false fun q => h2 q.2.1
          rw [e] at k
          rw [decide_eq_false (fun q => h2 (V.int.inj q))]
          exact iteF k
      · have e : decide (a = x ∧ b = y ∧ c = z) = false := decide_eq_false fun q => h1 q.1
        rw [e] at k
        rw [decide_eq_false (fun q => h1 (V.int.inj q))]
        exact iteF k
    · exact ⟨_, rfl, _, _, _, _, _, rfl, .own _, .base ty, kt, _, rfl, iteF k⟩
theorem scStraight__add__ : FnScope ["self", "other"] ["self", "other"] (defScope iStraight__add__) := ⟨rfl, rfl, rfl, by decide +kernel, rfl, by decide +kernel, by decide +kernel⟩
theorem om_SAdd {fd : FuncData} (F : FnM K "Straight" "__add__" "Straight.__add__" iStraight__add__ fd) (T : StTx K mg) (hm : Meth K (CS K) "__add__" (He.ma K (CS K) "__add__")) (dIsStr : Dn P w K mg base 2 "is_straight" ["value"] (spIsStr K)) (dLike : Dn P w K mg base 3 "straight_like" ["value"] (spLike K)) (dAdded : Dn P w K mg base 3 "added" ["one", "other", "sign"] (spAdded K)) : Om P w K mg base (CS K) 4 (dunder "add") (spSAdd K) := by
  refine ⟨_, fd, ["self", "other"], ?_, (by rw [show dunder "add" = ("__add__" : Str) by decide +kernel]; exact hm.at_), hm.fn, F.bindsN fun _ _ _ _ _ _ us hl => match us, hl with | [_, _], _ => rfl⟩
  refine F.ok scStraight__add__ (fun vs H Q E h => ?_) (fun cdv A outer s H vs Q E hr h => ?_)
  · obtain ⟨p, a, b, c, x, y, z, v, rfl, _⟩ := h
    rfl
  · obtain ⟨p, a, b, c, x, y, z, v, rfl, hS, hv, k⟩ := h
    refine ⟨_, PSs.nox (pss_cons (ps_if (pt_not (pt_val (pe_dn dIsStr hr (pa_cons (pv 1) pa_nil)))) (pss_one ps_never) pss_nil)
      (pss_one (ps_ret (pe_dn dAdded hr (pa_cons (pv 0) (pa_cons (pe_dn dLike hr (pa_cons (pv 1) pa_nil)) (pa_cons pe_int pa_nil))))))), ?_⟩
    refine ⟨_, rfl, v, x, y, z, rfl, hv, _, rfl, iteF ?_⟩
    refine ⟨_, rfl, _, rfl, v, x, y, z, rfl, hv, fun q H1 s1 hq => ⟨p, q, a, b, c, x, y, z, 1, rfl, hS.same s1, hq, by unfold Sm; omega, fun r H2 s2 _ hr2 => ?_⟩⟩
    rw [Int.one_mul, Int.one_mul, Int.one_mul] at hr2
    exact k r H2 (s1.trans s2) hr2
end
end K20

set_option maxHeartbeats 4000000
namespace K20
open PySem PySem.Spec PyProof.Rows L2 Z
section
variable {P : Program} {w : World} {K : PySem.W.Frag} {mg : Str → Option Value} {base : Heap}
theorem cm_or {i j : Int} (h : Sm j ∨ Sm i) : CMul i j := h.elim .inr .inl
theorem scStraight__mul__ : FnScope ["self", "other"] ["self", "other"] (defScope iStraight__mul__) := ⟨rfl, rfl, rfl, by decide +kernel, rfl, by decide +kernel, by decide +kernel⟩
theorem om_SMul {fd : FuncData} (F : FnM K "Straight" "__mul__" "Straight.__mul__" iStraight__mul__ fd) (T : StTx K mg) (M : MkS P w K mg base) (hm : Meth K (CS K) "__mul__" (He.ma K (CS K) "__mul__")) (dIsInt : Dn P w K mg base 1 "is_integer" ["value"] (spIsInt K)) : Om P w K mg base (CS K) 3 (dunder "mul") (spSMul K) := by
  refine ⟨_, fd, ["self", "other"], ?_, (by rw [show dunder "mul" = ("__mul__" : Str) by decide +kernel]; exact hm.at_), hm.fn, F.bindsN fun _ _ _ _ _ _ us hl => match us, hl with | [_, _], _ => rfl⟩
  refine F.ok scStraight__mul__ (fun vs H Q E h => ?_) (fun cdv A outer s H vs Q E hr h => ?_)
  · obtain ⟨p, a, b, c, k, rfl, _⟩ := h
    rfl
  · obtain ⟨p, a, b, c, k, rfl, hS, sm, q⟩ := h
    obtain ⟨dx, hp⟩ := id hS
    refine ⟨_, PSs.nox (pss_cons (ps_if (pt_not (pt_val (pe_dn dIsInt hr (pa_cons (pv 1) pa_nil)))) (pss_one ps_never) pss_nil)
      (pss_one (ps_ret (pe_S T M hr (pa_cons (pe_op op_mul (pe_fld (pv 0) rfl) (pv 1)) (pa_cons (pe_op op_mul (pe_fld (pv 0) rfl) (pv 1)) (pa_cons (pe_op op_mul (pe_fld (pv 0) rfl) (pv 1)) pa_nil))))))), ?_⟩
    refine ⟨_, rfl, _, rfl, .inl ⟨k, rfl, _, rfl, iteF ?_⟩⟩
    refine ⟨_, rfl, p, _, dx, _, _, rfl, hp, T.clS, T.nI, sf_i _ _ _, _, rfl, _, _, rfl, rfl, cm_or (sm.imp id fun z => z.1), ?_⟩
    refine ⟨_, rfl, p, _, dx, _, _, rfl, hp, T.clS, T.nN, sf_n _ _ _, _, rfl, _, _, rfl, rfl, cm_or (sm.imp id fun z => z.2.1), ?_⟩
    refine ⟨_, rfl, p, _, dx, _, _, rfl, hp, T.clS, T.nO, sf_one _ _ _, _, rfl, _, _, rfl, rfl, cm_or (sm.imp id fun z => z.2.2), ?_⟩
    exact ⟨_, _, _, rfl, q⟩
theorem scStraight__rmul__ : FnScope ["self", "other"] ["self", "other"] (defScope iStraight__rmul__) := ⟨rfl, rfl, rfl, by decide +kernel, rfl, by decide +kernel, by decide +kernel⟩
theorem om_SRmul {fd : FuncData} (F : FnM K "Straight" "__rmul__" "Straight.__rmul__" iStraight__rmul__ fd) (T : StTx K mg) (M : MkS P w K mg base) (hm : Meth K (CS K) "__rmul__" (He.ma K (CS K) "__rmul__")) (dIsInt : Dn P w K mg base 1 "is_integer" ["value"] (spIsInt K)) : Om P w K mg base (CS K) 3 (dunderR "mul") (spSMul K) := by
  refine ⟨_, fd, ["self", "other"], ?_, (by rw [show dunderR "mul" = ("__rmul__" : Str) by decide +kernel]; exact hm.at_), hm.fn, F.bindsN fun _ _ _ _ _ _ us hl => match us, hl with | [_, _], _ => rfl⟩
  refine F.ok scStraight__rmul__ (fun vs H Q E h => ?_) (fun cdv A outer s H vs Q E hr h => ?_)
  · obtain ⟨p, a, b, c, k, rfl, _⟩ := h
    rfl
  · obtain ⟨p, a, b, c, k, rfl, hS, sm, q⟩ := h
    obtain ⟨dx, hp⟩ := id hS
    refine ⟨_, PSs.nox (pss_cons (ps_if (pt_not (pt_val (pe_dn dIsInt hr (pa_cons (pv 1) pa_nil)))) (pss_one ps_never) pss_nil)
      (pss_one (ps_ret (pe_S T M hr (pa_cons (pe_op op_mul (pe_fld (pv 0) rfl) (pv 1)) (pa_cons (pe_op op_mul (pe_fld (pv 0) rfl) (pv 1)) (pa_cons (pe_op op_mul (pe_fld (pv 0) rfl) (pv 1)) pa_nil))))))), ?_⟩
    refine ⟨_, rfl, _, rfl, .inl ⟨k, rfl, _, rfl, iteF ?_⟩⟩
    refine ⟨_, rfl, p, _, dx, _, _, rfl, hp, T.clS, T.nI, sf_i _ _ _, _, rfl, _, _, rfl, rfl, cm_or (sm.imp id fun z => z.1), ?_⟩
    refine ⟨_, rfl, p, _, dx, _, _, rfl, hp, T.clS, T.nN, sf_n _ _ _, _, rfl, _, _, rfl, rfl, cm_or (sm.imp id fun z => z.2.1), ?_⟩
    refine ⟨_, rfl, p, _, dx, _, _, rfl, hp, T.clS, T.nO, sf_one _ _ _, _, rfl, _, _, rfl, rfl, cm_or (sm.imp id fun z => z.2.2), ?_⟩
    exact ⟨_, _, _, rfl, q⟩
theorem scBadNumber__init__ : FnScope ["self", "what", "number"] ["self", "what", "number"] (defScope iBadNumber__init__) := ⟨rfl, rfl, rfl, by decide +kernel, rfl, by decide +kernel, by decide +kernel⟩
theorem mxBadNumber {fd : FuncData} (T : EC K mg "BadNumber" ["what", "number"]) (F : FnM K "BadNumber" "__init__" "BadNumber.__init__" iBadNumber__init__ fd) : Mx P w K mg base "BadNumber" ["self", "what", "number"] ["what", "number"] := by
  refine ⟨T, fd, ?_, F.bindsN fun _ _ _ _ _ _ us hl => match us, hl with | [_, _, _], _ => rfl⟩
  refine F.ok scBadNumber__init__ (fun vs H Q E h => ?_) (fun cdv A outer s H vs Q E hr h => ⟨_, PSs.nox (pss_cons (ps_ost (pv 0) (pv 1)) (pss_one (ps_ost (pv 0) (pv 2)))), rd_err2 T h⟩)
  obtain ⟨a, ws, rfl, e, _⟩ := h
  rw [List.length_cons, e]
  rfl
/-- what may be called as Place(v, d) -/
def MkP (P : Program) (w : World) (K : PySem.W.Frag) (mg : Str → Option Value) (base : Heap) : Prop := ∃ fd, FnOk P w K mg base (L2.CX P w) 4 (He.ma K (CP K) "__init__") fd ["self", "straight", "divisor"] (spPI K) ∧ Binds K fd ["self", "straight", "divisor"] []
theorem scPlace__init__ : FnScope ["self", "straight", "divisor", "told", "common"] ["self", "straight", "divisor"] (defScope iPlace__init__) := ⟨rfl, rfl, rfl, by decide +kernel, rfl, by decide +kernel, by decide +kernel⟩
theorem mk_P {fd : FuncData} (T : PlTx K mg) (M : MkS P w K mg base) (MB : Mx P w K mg base "BadNumber" ["self", "what", "number"] ["what", "number"]) (dLike : Dn P w K mg base 3 "straight_like" ["value"] (spLike K))
    (F : FnM K "Place" "__init__" "Place.__init__" iPlace__init__ fd) : MkP P w K mg base := by
  refine ⟨fd, ?_, F.bindsN fun _ _ _ _ _ _ us hl => match us, hl with | [_, _, _], _ => rfl⟩
  refine F.ok scPlace__init__ (fun vs H Q E h => ?_) (fun cdv A outer s H vs Q E hr h => ?_)
  · obtain ⟨p, dx, v, a, b, c, d, rfl, _⟩ := h
    rfl
  · obtain ⟨p, dx, v, a, b, c, d, rfl, hp, hv, hbad, hok⟩ := h
    refine ⟨_, (pss_cons (ps_if (pt_cmpR op_lt (pv 2) pe_int (nomark _)) (pss_one (ps_raise rfl (takes_of rfl rfl rfl rfl) (pmk_err MB hr (pa_cons pe_str (pa_cons (pv 2) pa_nil))))) pss_nil)
      (pss_cons (ps_set (i := 3) scPlace__init__.nd rfl (Or.inl rfl) (pe_dn dLike hr (pa_cons (pv 1) pa_nil)))
      (pss_cons (ps_set (i := 4) scPlace__init__.nd rfl (Or.inl rfl) (pe_callBfun cr_gcd (by rfl) T.gcd (pa_cons (pe_callBfun cr_gcd (by rfl) T.gcd (pa_cons (pe_fld (pv 3) rfl) (pa_cons (pe_fld (pv 3) rfl) pa_nil))) (pa_cons (pv 2) pa_nil))))
      (pss_cons (ps_fld (pv 0) (pe_S T.toStTx M hr (pa_cons (pe_op op_fdivN (pe_fld (pv 3) rfl) (pv 4)) (pa_cons (pe_op op_fdivN (pe_fld (pv 3) rfl) (pv 4)) (pa_cons (pe_op op_fdivN (pe_fld (pv 3) rfl) (pv 4)) pa_nil)))) rfl)
      (pss_one (ps_fld (pv 0) (pe_op op_fdivN (pv 2) (pv 4)) rfl)))))), ?_⟩
    refine ⟨_, rfl, _, _, rfl, rfl, _, rfl, ite2 (fun hd => ?_) (fun hd => ?_)⟩
    · exact ⟨_, rfl, err_go (K := K) (x := "BadNumber") (fs := ["what", "number"]) (by show 2 ≤ 1000; decide) rfl fun e H' s he => hbad (of_decide_eq_true hd) e H' s he⟩
    · have d1 : 1 ≤ d := by
        have z : ¬ d < 1 := fun z => hd (decide_eq_true z)
        omega
      obtain ⟨d2, k⟩ := hok d1
      have hg0 : 0 < gg a b d := Nat.gcd_pos_of_pos_right _ (by omega)
      have hgd : gg a b d ≤ d.natAbs := Nat.le_of_dvd (by omega) (Nat.gcd_dvd_right _ _)
      have hgc : CDivN a (gg a b d : Int) ∧ CDivN b (gg a b d : Int) ∧ CDivN c (gg a b d : Int) ∧ CDivN d (gg a b d : Int) := by
        unfold CDivN
        have e : ((gg a b d : Nat) : Int) ≠ 0 ∧ ((gg a b d : Nat) : Int).natAbs < 1073741824 := ⟨by omega, by omega⟩
        exact ⟨e, e, e, e⟩
      obtain ⟨ga_, gb_, gc_, gd_⟩ := hgc
      refine ⟨_, rfl, v, a, b, c, rfl, hv, fun q H1 s1 hq => ?_⟩
      obtain ⟨dq, hq⟩ := hq
      refine ⟨_, rfl, q, _, dq, _, _, rfl, hq, T.clS, T.nI, sf_i _ _ _, _, rfl, q, _, dq, _, _, rfl, hq, T.clS, T.nN, sf_n _ _ _, _, _, rfl, _, rfl, _, _, rfl, ?_⟩
      refine ⟨_, rfl, q, _, dq, _, _, rfl, hq, T.clS, T.nI, sf_i _ _ _, _, rfl, _, _, rfl, rfl, ga_, ?_⟩
      refine ⟨_, rfl, q, _, dq, _, _, rfl, hq, T.clS, T.nN, sf_n _ _ _, _, rfl, _, _, rfl, rfl, gb_, ?_⟩
      refine ⟨_, rfl, q, _, dq, _, _, rfl, hq, T.clS, T.nO, sf_one _ _ _, _, rfl, _, _, rfl, rfl, gc_, ?_⟩
      refine ⟨_, _, _, rfl, fun r H2 s2 hr1 hr2 => ?_⟩
      have hp2 : H2 p = some (.ins (CP K) dx []) := s2 _ _ (s1 _ _ hp)
      have npr : r ≠ p := fun z => by
        rw [z, s1 _ _ hp] at hr1
        cases hr1
      refine ⟨_, rfl, p, _, dx, _, rfl, hp2, T.clP, T.nS, (by show 0 < 1000; decide), ?_⟩
      refine ⟨_, rfl, _, rfl, _, _, rfl, rfl, gd_, _, rfl, p, _, dx, _, rfl, upd_same, T.clP, T.nD, len1 _ _, ?_⟩
      obtain ⟨dr, hr3⟩ := hr2
      refine k r _ upd_same ⟨dr, by rw [upd_ne npr, upd_ne npr]; exact hr3⟩ (fun b o nb e => ?_)
      rw [upd_ne nb, upd_ne nb]
      exact s2 _ _ (s1 _ _ e)
theorem pe_P {X : Cx} {e : Expr} {es : List Expr} {t : TA} {p pos : Pos} {k : Nat} {E : L2.St → XK} (T : PlTx X.K X.mg) (M : MkP X.prog X.w X.K X.mg X.base) (hr : Room k X.A) (hx : ∀ σ, PassesAt (L2.CX X.prog X.w) X σ (E σ)) (ha : PA X (e :: es) t) (hk : 5 ≤ k := by decide) (hg : Gl X "Place" := by rfl)
    (he : starEach (e :: es) X.env = (false, eval e X.env) :: starEach es X.env := by rfl) (hpl : (backTo pos (starEach es X.env)).any (·.1) = false := by rfl) :
    PE X (.Call (.Name "Place" p) (e :: es) [] pos) (fun σ H Q => t σ H fun vs H1 => ∃ v d, vs = [v, .int d] ∧ rPlc X.K v d H1 Q (E σ)) := by
  obtain ⟨fd, F, hb⟩ := M
  refine ⟨fun pins s σ H Q I h => ?_⟩
  refine wpAny_Call_Name_kw (ld_glob I hg T.gP ?_ (by decide))
  refine PySem.W.callWith_K (h₀ := X.base) I.ok.mod.kin T.mkP.kp (thn (ha.run pos pins s σ H _ I h) fun us s1 ⟨vs, H1, I1, r, v, d, ev, a, b, c, hv, hbad, hok⟩ => ⟨I1.kIn, ?_⟩) he hpl
  subst ev
  refine make_at T.mkP F (hr.mono hk) hb (hx σ) I1 r fun x dx nx nd ne => ?_
  have s0 : Same H1 (upd (upd H1 dx (.own x)) x (.ins (CP X.K) dx [])) := Same.new _ (Same.new _ (Same.refl H1) nd) (by rw [upd_ne (Ne.symm ne)]; exact nx)
  refine ⟨x, dx, v, a, b, c, d, rfl, upd_same, hv.same s0, fun hd e H' s he => hbad hd e H' (s0.trans s) he, fun h1 => ⟨(hok h1).1, fun q H' hp hq kp => ⟨rfl, (hok h1).2 x H' (Same.made (Same.refl H1) nx nd kp) ⟨dx, q, hp, hq⟩⟩⟩⟩
/-- s // d -/
def OmX (P : Program) (w : World) (K : PySem.W.Frag) (mg : Str → Option Value) (base : Heap) (C : Addr) (k : Nat) (name : Str) (sp : Sp) : Prop :=
  ∃ (f : Addr) (fd : FuncData) (ps : List Str), FnOk P w K mg base (L2.CX P w) k f fd ps sp ∧ PySem.W.findIn K (.ref C) name = some (some (.ref f)) ∧ PySem.W.isFn K (.ref f) = true ∧ Binds K fd ps []
theorem scStraight__floordiv__ : FnScope ["self", "other"] ["self", "other"] (defScope iStraight__floordiv__) := ⟨rfl, rfl, rfl, by decide +kernel, rfl, by decide +kernel, by decide +kernel⟩
theorem om_Fdiv {fd : FuncData} (F : FnM K "Straight" "__floordiv__" "Straight.__floordiv__" iStraight__floordiv__ fd) (T : PlTx K mg) (MP : MkP P w K mg base) (hm : Meth K (CS K) "__floordiv__" (He.ma K (CS K) "__floordiv__")) (dIsInt : Dn P w K mg base 1 "is_integer" ["value"] (spIsInt K)) : OmX P w K mg base (CS K) 6 (dunder "floordiv") (spFdiv K) := by
  refine ⟨_, fd, ["self", "other"], ?_, (by rw [show dunder "floordiv" = ("__floordiv__" : Str) by decide +kernel]; exact hm.at_), hm.fn, F.bindsN fun _ _ _ _ _ _ us hl => match us, hl with | [_, _], _ => rfl⟩
  refine F.ok scStraight__floordiv__ (fun vs H Q E h => ?_) (fun cdv A outer s H vs Q E hr h => ?_)
  · obtain ⟨p, a, b, c, d, rfl, _⟩ := h
    rfl
  · obtain ⟨p, a, b, c, d, rfl, hS, hbad, hok⟩ := h
    refine ⟨_, (pss_cons (ps_if (pt_not (pt_val (pe_dn dIsInt hr (pa_cons (pv 1) pa_nil)))) (pss_one ps_never) pss_nil)
      (pss_one (ps_ret (pe_P T MP hr (fun σ => fun pins H s e s' I h => passes_call (takes_of rfl rfl rfl rfl) (fun _ _ _ _ z => z) pins σ H s e s' I h) (pa_cons (pv 0) (pa_cons (pv 1) pa_nil)))))), ?_⟩
    refine ⟨_, rfl, _, rfl, .inl ⟨d, rfl, _, rfl, iteF ?_⟩⟩
    exact ⟨_, rfl, _, rfl, _, d, rfl, a, b, c, .inl ⟨p, rfl, hS⟩, hbad, hok⟩
theorem pe_fdS {X : Cx} {K : PySem.W.Frag} {a b : Expr} {ta tb : TE} {pos : Pos} {k : Nat} {E : L2.St → XK} (O : OmX X.prog X.w K X.mg X.base (CS K) 6 (dunder "floordiv") (spFdiv K)) (T : OpI K (CS K) "floordiv") (hr : Room k X.A) (hx : ∀ σ, PassesAt (L2.CX X.prog X.w) X σ (E σ)) (ha : PE X a ta) (hb : PE X b tb) (hk : 6 ≤ k := by decide) (hK : X.K = K := by rfl) :
    PE X (.BinOp a .FloorDiv b pos) (fun σ H Q => ta σ H fun x H1 => tb σ H1 fun y H2 => ∃ (p : Addr) (x' y' z' d : Int), x = .ref p ∧ y = .int d ∧ StrAt K H2 p x' y' z' ∧ (d < 1 → BadN K H2 "divisor" (.int d) (E σ)) ∧ (1 ≤ d → d < 1073741824 ∧ NewP K H2 x' y' z' d Q)) := by
  subst hK
  refine ⟨fun pins s σ H Q I h => ?_⟩
  refine wpAny_BinOp (binT ha hb I h fun v u s2 x y H2 I2 rx ry hh => ?_)
  obtain ⟨p, x', y', z', d, ex, ey, hS, q1, q2⟩ := hh
  obtain ⟨f, fd, ps, F, hs, hf, hbd⟩ := O
  have rr : Vals [x, y] [v, u] := .cons rx (.cons ry .nil)
  subst ex ey
  cases (show v = Value.ref p from rx)
  obtain ⟨t, rfl⟩ := (show ∃ t, u = Value.int d t from ry)
  obtain ⟨dx, hp⟩ := id hS
  obtain ⟨od, J⟩ := ins_at I2 hp
  obtain ⟨m, hF⟩ := I2.fr
  obtain ⟨rc, hrc, hpr⟩ := T.rr
  obtain ⟨fo, h1⟩ := T.i1
  obtain ⟨ro, h2⟩ := T.i2
  refine PySem.W.ksp_binT (op := .FloorDiv) hF I2.ok.mod.kin J rfl T.sf hs hf hrc hpr h1 h2 T.s1 ?_
  exact wpAny_mono (run_fnS (E := E) F (hr.mono hk) hbd (hx σ) I2 rr ⟨p, x', y', z', d, rfl, hS, q1, q2⟩) (fun u s' z => back_of z) fun _ _ z => z
theorem pe_fdT {X : Cx} {K : PySem.W.Frag} {a b : Expr} {ta tb : TE} {pos : Pos} {k : Nat} {W : WX} (tk : Takes X W) (hK : X.K = K) (O : OmX X.prog X.w K X.mg X.base (CS K) 6 (dunder "floordiv") (spFdiv K)) (T : OpI K (CS K) "floordiv") (hr : Room k X.A) (ha : PE X a ta) (hb : PE X b tb) (hk : 6 ≤ k := by decide) :
    PE X (.BinOp a .FloorDiv b pos) (fun σ H Q => ta σ H fun x H1 => tb σ H1 fun y H2 => ∃ (p : Addr) (x' y' z' d : Int), x = .ref p ∧ y = .int d ∧ StrAt K H2 p x' y' z' ∧ (d < 1 → BadN K H2 "divisor" (.int d) (WE W σ)) ∧ (1 ≤ d → d < 1073741824 ∧ NewP K H2 x' y' z' d Q)) := pe_fdS O T hr (fun σ => passAt tk σ) ha hb hk hK
theorem pe_SfdT {X : Cx} {K : PySem.W.Frag} {e b : Expr} {es : List Expr} {t : TA} {tb : TE} {p pos pos2 : Pos} {k : Nat} {W : WX} (tk : Takes X W) (hK : X.K = K) (O : OmX X.prog X.w K X.mg X.base (CS K) 6 (dunder "floordiv") (spFdiv K)) (T : OpI K (CS K) "floordiv") (S : StTx K X.mg) (M : MkS X.prog X.w K X.mg X.base) (hr : Room k X.A) (ha : PA X (e :: es) t) (hb : PE X b tb) (hk : 6 ≤ k := by decide) (hg : Gl X "Straight" := by rfl)
    (he : starEach (e :: es) X.env = (false, eval e X.env) :: starEach es X.env := by rfl) (hpl : (backTo pos2 (starEach es X.env)).any (·.1) = false := by rfl) :
    PE X (.BinOp (.Call (.Name "Straight" p) (e :: es) [] pos2) .FloorDiv b pos) (fun σ H Q => (t σ H fun vs H1 => ∃ a b c, vs = [.int a, .int b, .int c] ∧ NewS K H1 a b c fun x H1 => tb σ H1 fun y H2 => ∃ (p : Addr) (x' y' z' d : Int), x = .ref p ∧ y = .int d ∧ StrAt K H2 p x' y' z' ∧ (d < 1 → BadN K H2 "divisor" (.int d) (WE W σ)) ∧ (1 ≤ d → d < 1073741824 ∧ NewP K H2 x' y' z' d Q))) := by
  subst hK
  exact pe_fdT tk rfl O T hr (pe_S S M hr ha (Nat.le_trans (by decide) hk) hg he hpl) hb hk
theorem pe_SK {X : Cx} {K : PySem.W.Frag} {e : Expr} {es : List Expr} {t : TA} {p pos : Pos} {k : Nat} (hK : X.K = K) (T : StTx K X.mg) (M : MkS X.prog X.w K X.mg X.base) (hr : Room k X.A) (ha : PA X (e :: es) t) (hk : 2 ≤ k := by decide) (hg : Gl X "Straight" := by rfl)
    (he : starEach (e :: es) X.env = (false, eval e X.env) :: starEach es X.env := by rfl) (hpl : (backTo pos (starEach es X.env)).any (·.1) = false := by rfl) :
    PE X (.Call (.Name "Straight" p) (e :: es) [] pos) (fun σ H Q => t σ H fun vs H1 => ∃ a b c, vs = [.int a, .int b, .int c] ∧ NewS K H1 a b c Q) := by
  subst hK
  exact pe_S T M hr ha hk hg he hpl
theorem pe_PT {X : Cx} {K : PySem.W.Frag} {e : Expr} {es : List Expr} {t : TA} {p pos : Pos} {k : Nat} {W : WX} (tk : Takes X W) (hK : X.K = K) (T : PlTx K X.mg) (M : MkP X.prog X.w K X.mg X.base) (hr : Room k X.A) (ha : PA X (e :: es) t) (hk : 5 ≤ k := by decide) (hg : Gl X "Place" := by rfl)
    (he : starEach (e :: es) X.env = (false, eval e X.env) :: starEach es X.env := by rfl) (hpl : (backTo pos (starEach es X.env)).any (·.1) = false := by rfl) :
    PE X (.Call (.Name "Place" p) (e :: es) [] pos) (fun σ H Q => t σ H fun vs H1 => ∃ v d, vs = [v, .int d] ∧ rPlc K v d H1 Q (WE W σ)) := by
  subst hK
  exact pe_P T M hr (fun σ => passAt tk σ) ha hk hg he hpl
theorem scPlace__call__ : FnScope ["self", "i", "n"] ["self", "i", "n"] (defScope iPlace__call__) := ⟨rfl, rfl, rfl, by decide +kernel, rfl, by decide +kernel, by decide +kernel⟩
theorem ok_PCall {fd : FuncData} (F : FnM K "Place" "__call__" "Place.__call__" iPlace__call__ fd) (T : PlTx K mg) (dVal : Dn P w K mg base 1 "value_of" ["straight", "i", "n"] (spVal K)) : FnOk P w K mg base CX0 2 (He.ma K (CP K) "__call__") fd ["self", "i", "n"] (spPCall K) := by
  refine F.ok scPlace__call__ (fun vs H Q E h => ?_) (fun cdv A outer s H vs Q E hr h => ?_)
  · obtain ⟨p, a, b, c, d, i, n, rfl, _⟩ := h
    rfl
  · obtain ⟨p, a, b, c, d, i, n, rfl, ⟨dx, q, hp, hq⟩, sa, sb, d0, d1, k⟩ := h
    refine ⟨_, PSs.nox (pss_one (ps_ret (pe_op op_fdivN (pe_dn dVal hr (pa_cons (pe_fld (pv 0) rfl) (pa_cons (pv 1) (pa_cons (pv 2) pa_nil)))) (pe_fld (pv 0) rfl)))), ?_⟩
    refine ⟨_, rfl, p, _, dx, _, _, rfl, hp, T.clP, T.nS, pf_s _ _, _, rfl, _, rfl, q, a, b, c, i, n, rfl, hq, sa, sb, ?_⟩
    exact ⟨_, rfl, p, _, dx, _, _, rfl, hp, T.clP, T.nD, pf_d _ _, _, _, rfl, rfl, ⟨by omega, by omega⟩, k⟩
theorem scPlace__eq__ : FnScope ["self", "other"] ["self", "other"] (defScope iPlace__eq__) := ⟨rfl, rfl, rfl, by decide +kernel, rfl, by decide +kernel, by decide +kernel⟩
theorem om_PEq {fd : FuncData} (F : FnM K "Place" "__eq__" "Place.__eq__" iPlace__eq__ fd) (T : PlTx K mg) (hm : Meth K (CP K) "__eq__" (He.ma K (CP K) "__eq__")) (OS : Om P w K mg base (CS K) 1 "__eq__" (spSEq K)) (nf : PySem.W.notFirst K (CS K) (.ref (CS K)) = true) : Om P w K mg base (CP K) 2 "__eq__" (spPEq K) := by
  refine ⟨_, fd, ["self", "other"], ?_, hm.at_, hm.fn, F.bindsN fun _ _ _ _ _ _ us hl => match us, hl with | [_, _], _ => rfl⟩
  refine F.ok scPlace__eq__ (fun vs H Q E h => ?_) (fun cdv A outer s H vs Q E hr h => ?_)
  · obtain ⟨p, a, b, c, d, v, rfl, _⟩ := h
    rfl
  · obtain ⟨p, a, b, c, d, v, rfl, hP, h⟩ := h
    refine ⟨_, PSs.nox (pss_one (ps_ret (pe_and (pe_callB call_isi (by rfl) T.isi (by decide +kernel) (pa_cons (pv 1) (pa_cons (pe_glob (v := .ref (CP K)) rfl T.gP rfl) pa_nil))) (pe_and (pe_cmpR (op_eqOwn OS hr) (pe_fld (pv 0) rfl) (pe_fld (pv 1) rfl) (nomark _)) (pe_one (pe_cmpR op_eq (pe_fld (pv 0) rfl) (pe_fld (pv 1) rfl) (nomark _))))))), ?_⟩
    obtain ⟨dx, q, hp, hq⟩ := id hP
    rcases h with ⟨r, x, y, z, u, rfl, hP2, k⟩ | ⟨t, ty, kt, k⟩
    · obtain ⟨dy, q2, hp2, hq2⟩ := id hP2
      refine ⟨_, rfl, _, _, _, _, _, rfl, .own _, .base (T.pty hP2), T.kPP, _, rfl, iteT ?_⟩
      obtain ⟨dq, hqq⟩ := id hq
      refine ⟨_, rfl, p, _, dx, _, _, rfl, hp, T.clP, T.nS, pf_s _ _, _, rfl, r, _, dy, _, _, rfl, hp2, T.clP, T.nS, pf_s _ _, q, dq, _, _, rfl, hqq, T.ty hq2, nf, ?_⟩
      refine ⟨q, a, b, c, _, rfl, hq, .inl ⟨q2, x, y, z, rfl, hq2, _, rfl, ?_⟩⟩
      by_cases h1 : a = x ∧ b = y ∧ c = z
      · rw [decide_eq_true h1]
        refine iteT ?_
        refine ⟨_, rfl, p, _, dx, _, _, rfl, hp, T.clP, T.nD, pf_d _ _, _, rfl, r, _, dy, _, _, rfl, hp2, T.clP, T.nD, pf_d _ _, rfl, ?_⟩
        have e : decide (V.int d = V.int u) = decide (a = x ∧ b = y ∧ c = z ∧ d = u) := decide_eq_decide.mpr ⟨fun q => ⟨h1.1, h1.2.1, h1.2.2, V.int.inj q⟩, fun q => by rw [q.2.2.2]⟩
        show Q (.bl (decide (V.int d = V.int u))) H
        rw [e]
        exact k
      · rw [decide_eq_false h1]
        have e : decide (a = x ∧ b = y ∧ c = z ∧ d = u) = false := decide_eq_false fun q => h1 ⟨q.1, q.2.1, q.2.2.1⟩
        rw [e] at k
        exact iteF k
    · exact ⟨_, rfl, _, _, _, _, _, rfl, .own _, .base ty, kt, _, rfl, iteF k⟩
theorem scPlacereplaced : FnScope ["self", "factor", "shift"] ["self", "factor", "shift"] (defScope iPlacereplaced) := ⟨rfl, rfl, rfl, by decide +kernel, rfl, by decide +kernel, by decide +kernel⟩
theorem ok_PRepl {fd : FuncData} (F : FnM K "Place" "replaced" "Place.replaced" iPlacereplaced fd) (T : PlTx K mg) (MP : MkP P w K mg base) (dRepl : Dn P w K mg base 3 "replaced_straight" ["straight", "factor", "shift"] (spRepl K)) : FnOk P w K mg base CX0 6 (He.ma K (CP K) "replaced") fd ["self", "factor", "shift"] (spPRepl K) := by
  refine F.ok scPlacereplaced (fun vs H Q E h => ?_) (fun cdv A outer s H vs Q E hr h => ?_)
  · obtain ⟨p, a, b, c, d, f, g, rfl, _⟩ := h
    rfl
  · obtain ⟨p, a, b, c, d, f, g, rfl, ⟨dx, q, hp, hq⟩, sa, d0, d1, k⟩ := h
    refine ⟨_, PSs.nox (pss_one (ps_ret (pe_P T MP hr at_E0 (pa_cons (pe_dn dRepl hr (pa_cons (pe_fld (pv 0) rfl) (pa_cons (pv 1) (pa_cons (pv 2) pa_nil)))) (pa_cons (pe_fld (pv 0) rfl) pa_nil))))), ?_⟩
    refine ⟨_, rfl, p, _, dx, _, _, rfl, hp, T.clP, T.nS, pf_s _ _, _, rfl, _, rfl, q, a, b, c, f, g, rfl, hq, sa, fun r H1 s1 _ hr1 => ?_⟩
    refine ⟨_, rfl, p, _, dx, _, _, rfl, s1 _ _ hp, T.clP, T.nD, pf_d _ _, _, d, rfl, _, _, _, .inl ⟨r, rfl, hr1⟩, fun z => absurd d0 (by omega), fun _ => ⟨d1, fun t H2 s2 ht => k t H2 (s1.trans s2) ht⟩⟩
end
end K20

set_option maxHeartbeats 4000000
namespace K20
open PySem PySem.Spec PyProof.Rows L2 Z
/-- the law's own built-in names, beside those of the classes -/
structure LwTx (K : PySem.W.Frag) (mg : Str → Option Value) : Prop extends PlTx K mg where
  len : mg "len" = none
  list : mg "list" = none
  range : mg "range" = none
  str : mg "str" = none
  abs : mg "abs" = none
  max : mg "max" = none
  min : mg "min" = none
def big30 : Int := (10 : Int) ^ (30 : Int).toNat
theorem big30_pos : 0 < big30 := by decide
theorem big30_ne : big30 ≠ 0 := by decide
def spBig : Sp := fun vs H Q _ => ∃ (p : Addr) (t : Nat), vs = [.ref p, .int big30] ∧ t < 900000000 ∧ Pen H p t ∧ ∀ H' (d : Int), 0 ≤ d → d < big30 → Pen H' p (t + 7) → Keep p H H' → Q (.int d) H'
def spBetween : Sp := fun vs H Q _ => ∃ (p : Addr) (lo hi : Int) (t : Nat), vs = [.ref p, .int lo, .int hi] ∧ lo ≤ hi ∧ hi - lo + 1 < 1073741824 ∧ t < 900000000 ∧ Pen H p t ∧ ∀ H' (d : Int), lo ≤ d → d ≤ hi → Pen H' p (t + 2) → Keep p H H' → Q (.int d) H'
def spFar : Sp := fun vs H Q _ => ∃ (p : Addr) (t : Nat), vs = [.ref p] ∧ t < 800000000 ∧ Pen H p t ∧ ∀ H' (d : Int), 0 ≤ d → d < big30 → Pen H' p (t + 8) → Keep p H H' → Q (.int d) H'
def spInteger : Sp := fun vs H Q _ => ∃ i, vs = [.int i] ∧ Q (.bl true) H
def spDivisor : Sp := fun vs H Q _ => ∃ a b : Int, vs = [.int a, .int b] ∧ Q (.int (Nat.gcd a.natAbs b.natAbs : Nat)) H
def spDue (K : PySem.W.Frag) : Sp := fun vs H Q _ => ∃ (r : Addr) (a b c d : Int), vs = [.ref r] ∧ SqT K H r [.int a, .int b, .int c, .int d] ∧ 0 < d ∧ d < 1073741824 ∧
  ∀ t, H t = none → Q (.ref t) (upd H t (.tup [.int (a.fdiv (gg a b d)), .int (b.fdiv (gg a b d)), .int (c.fdiv (gg a b d)), .int (d.fdiv (gg a b d))]))
theorem sz4 : 4 ≤ sizeLine := by show 4 ≤ sizeLine; decide
theorem sz2 : 2 ≤ sizeLine := by show 2 ≤ sizeLine; decide
theorem abs_of (a : Int) : (if a < 0 then -a else a) = (a.natAbs : Int) := by
  by_cases h : a < 0
  · rw [if_pos h]; omega
  · rw [if_neg h]; omega
section
variable {P : Program} {w : World} {K : PySem.W.Frag} {mg : Str → Option Value} {base : Heap}
theorem LwTx.bt (T : LwTx K mg) : Bt mg := ⟨T.int, T.len, T.list⟩
theorem sc_law_big : FnScope ["_law_pen_here", "_law_many", "_law_found", "_law_k"] ["_law_pen_here", "_law_many"] (defScope s_law_big) := ⟨rfl, rfl, rfl, by decide +kernel, rfl, by decide +kernel, by decide +kernel⟩
theorem ok_big {f : Addr} {fd : FuncData} (F : FnP K "_law_big" s_law_big f fd) (T : LwTx K mg) (dDraw : Dn P w K mg base 1 "_law_draw" ["_law_pen_here", "_law_many"] spDraw) : FnOk P w K mg base CX0 2 f fd ["_law_pen_here", "_law_many"] spBig := by
  refine F.ok sc_law_big (fun vs H Q E h => ?_) (fun cdv A outer s H vs Q E hr h => ?_)
  · obtain ⟨p, t, rfl, _⟩ := h
    rfl
  · obtain ⟨p, t, rfl, ht, hP, k⟩ := h
    refine ⟨_, PSs.nox (pss_cons (ps_set (i := 2) sc_law_big.nd rfl (Or.inl rfl) pe_int)
      (pss_cons (ps_for PassesOwn.never rfl (pi_range1 (by rfl) T.range (pa_cons (pe_op op_add (pe_op op_fdivN (pe_callB call_len_str (by rfl) T.len PySem.boot_len (pa_cons (pe_callTy call_str_int (by rfl) T.str (by decide +kernel) (pa_cons (pv 1) pa_nil)) pa_nil)) pe_int) pe_int) pa_nil)) (pg_name (i := 3) sc_law_big.nd rfl (.inl rfl)) (pss_one (ps_set (i := 2) sc_law_big.nd rfl (Or.inl rfl) (pe_op op_add (pe_op op_mul (pv 2) (pe_op op_pow pe_int pe_int)) (pe_dn dDraw hr (pa_cons (pv 0) (pa_cons (pe_op op_pow pe_int pe_int) pa_nil)))))))
      (pss_one (ps_ret (pe_op op_modN (pe_callTy call_int1 (by rfl) T.int (by decide +kernel) (pa_cons (pv 2) pa_nil)) (pv 1)))))), ?_⟩
    refine ⟨_, rfl, ?_⟩
    refine ⟨_, rfl, (by decide +kernel), _, rfl, (by decide +kernel), _, _, rfl, rfl, ⟨by decide, by decide⟩, _, _, rfl, rfl, 7, (by decide +kernel), by decide, by decide, ?_⟩
    refine for_range (lo := 0) (n := 7) (fun i σ H' => ∃ (x : Int) (v : Option V), σ = [some (.ref p), some (.int big30), some (.int x), v] ∧ 0 ≤ x ∧ Pen H' p (t + i) ∧ Keep p H H') ⟨0, _, rfl, by decide, hP, Keep.refl _ _⟩ ?_ ?_
    · rintro i σ H2 hi ⟨x, v, rfl, hx, hP2, kp⟩
      refine ⟨_, rfl, _, _, rfl, rfl, ⟨by decide, by decide, by decide⟩, _, _, rfl, rfl, .inr ⟨by decide, by decide⟩, ?_⟩
      refine ⟨_, rfl, _, _, rfl, rfl, ⟨by decide, by decide, by decide⟩, p, _, t + i, rfl, by decide, by decide, by omega, hP2, fun H3 d d0 d1 hP3 kp3 => ?_⟩
      have hx2 : 0 ≤ x * 10 ^ (6 : Int).toNat := Int.mul_nonneg hx (by decide)
      exact ⟨_, _, rfl, rfl, _, _, rfl, by omega, hP3, kp.trans kp3⟩
    · rintro σ H2 ⟨x, v, rfl, hx, hP2, kp⟩
      refine ⟨_, rfl, .inl ⟨_, rfl, _, rfl, _, _, rfl, rfl, big30_ne, ?_⟩⟩
      exact k _ _ (fmod_range big30_pos).1 (fmod_range big30_pos).2 hP2 kp
theorem sc_law_between : FnScope ["_law_pen_here", "_law_least", "_law_most", "_law_way", "_law_found"] ["_law_pen_here", "_law_least", "_law_most"] (defScope s_law_between) := ⟨rfl, rfl, rfl, by decide +kernel, rfl, by decide +kernel, by decide +kernel⟩
theorem ok_between {f : Addr} {fd : FuncData} (F : FnP K "_law_between" s_law_between f fd) (T : LwTx K mg) (dDraw : Dn P w K mg base 1 "_law_draw" ["_law_pen_here", "_law_many"] spDraw) : FnOk P w K mg base CX0 2 f fd ["_law_pen_here", "_law_least", "_law_most"] spBetween := by
  refine F.ok sc_law_between (fun vs H Q E h => ?_) (fun cdv A outer s H vs Q E hr h => ?_)
  · obtain ⟨p, lo, hi, t, rfl, _⟩ := h
    rfl
  · obtain ⟨p, lo, hi, t, rfl, hle, hsm, ht, hP, k⟩ := h
    refine ⟨_, PSs.nox (pss_cons (ps_set (i := 3) sc_law_between.nd rfl (Or.inl rfl) (pe_dn dDraw hr (pa_cons (pv 0) (pa_cons pe_int pa_nil))))
      (pss_cons (ps_if (pt_cmpR op_lt (pv 3) pe_int (nomark _)) (pss_one (ps_set (i := 4) sc_law_between.nd rfl (Or.inl rfl) (pe_op op_sub (pe_dn dDraw hr (pa_cons (pv 0) (pa_cons pe_int pa_nil))) pe_int))) (pss_one (ps_if (pt_cmpR op_eq (pv 3) pe_int (nomark _)) (pss_one (ps_set (i := 4) sc_law_between.nd rfl (Or.inl rfl) (pe_ix ix_list (pe_lst (pa_cons (pv 1) (pa_cons (pv 2) (pa_cons (pe_op op_add (pv 1) pe_int) (pa_cons (pe_op op_sub (pv 2) pe_int) pa_nil))))) (pe_dn dDraw hr (pa_cons (pv 0) (pa_cons pe_int pa_nil))) (fun _ _ => rfl)))) (pss_one (ps_set (i := 4) sc_law_between.nd rfl (Or.inl rfl) (pe_op op_add (pv 1) (pe_dn dDraw hr (pa_cons (pv 0) (pa_cons (pe_op op_add (pe_op op_sub (pv 2) (pv 1)) pe_int) pa_nil)))))))))
      (pss_one (ps_ret (pe_callB (call_max2 rfl) (by rfl) T.max (by decide +kernel) (pa_cons (pv 1) (pa_cons (pe_callB (call_min2 rfl) (by rfl) T.min (by decide +kernel) (pa_cons (pv 2) (pa_cons (pv 4) pa_nil))) pa_nil))))))), ?_⟩
    refine ⟨_, rfl, p, 4, t, rfl, by decide, by decide, by omega, hP, fun H1 d d0 d1 hP1 kp1 => ?_⟩
    refine ⟨_, rfl, _, _, rfl, rfl, _, rfl, ite2 (fun _ => ?_) (fun _ => ?_)⟩
    · refine ⟨_, rfl, p, 7, t + 1, rfl, by decide, by decide, by omega, hP1, fun H2 e e0 e1 hP2 kp2 => ⟨_, _, rfl, rfl, ?_⟩⟩
      refine ⟨_, rfl, _, rfl, _, rfl, _, _, rfl, _, _, rfl, ?_⟩
      refine k _ _ ?_ ?_ hP2 (kp1.trans kp2)
      · split <;> split <;> omega
      · split <;> split <;> omega
    · refine ⟨_, rfl, rfl, _, rfl, ite2 (fun _ => ?_) (fun _ => ?_)⟩
      · refine ⟨_, rfl, _, rfl, _, rfl, _, _, rfl, rfl, _, rfl, _, _, rfl, rfl, sz4, fun l hl => ?_⟩
        have hP1' : Pen (upd H1 l (.lst [.int lo, .int hi, .int (lo + 1), .int (hi - 1)])) p (t + 1) := hP1.same (Same.new _ (Same.refl _) hl)
        refine ⟨_, rfl, p, 4, t + 1, rfl, by decide, by decide, by omega, hP1', fun H2 e e0 e1 hP2 kp2 => ?_⟩
        have kA : Keep p H H2 := kp1.trans ((Keep.new _ (Keep.refl p H1) hl).trans kp2)
        have hl2 : H2 l = some (.lst [.int lo, .int hi, .int (lo + 1), .int (hi - 1)]) := kp2 _ _ (fun z => by rw [z] at hl; obtain ⟨_, _, _, _, q, _⟩ := hP1; rw [hl] at q; cases q) upd_same
        obtain ⟨j, rfl⟩ : ∃ j : Nat, e = (j : Int) := ⟨e.toNat, by omega⟩
        have hj : ∃ v : Int, ([.int lo, .int hi, .int (lo + 1), .int (hi - 1)] : List V)[j]? = some (.int v) := by
          have hj4 : j < 4 := by omega
          match j, hj4 with
          | 0, _ => exact ⟨_, rfl⟩
          | 1, _ => exact ⟨_, rfl⟩
          | 2, _ => exact ⟨_, rfl⟩
          | 3, _ => exact ⟨_, rfl⟩
        obtain ⟨v, hv⟩ := hj
        refine ⟨l, _, _, _, rfl, rfl, SqL.of hl2, atI_nat hv, ?_⟩
        refine ⟨_, rfl, _, rfl, _, rfl, _, _, rfl, _, _, rfl, ?_⟩
        refine k _ _ ?_ ?_ hP2 kA
        · split <;> split <;> omega
        · split <;> split <;> omega
      · refine ⟨_, rfl, _, rfl, _, rfl, _, rfl, _, _, rfl, rfl, _, _, rfl, rfl, p, _, t + 1, rfl, by omega, by omega, by omega, hP1, fun H2 e e0 e1 hP2 kp2 => ⟨_, _, rfl, rfl, ?_⟩⟩
        refine ⟨_, rfl, _, rfl, _, rfl, _, _, rfl, _, _, rfl, ?_⟩
        refine k _ _ ?_ ?_ hP2 (kp1.trans kp2)
        · split <;> split <;> omega
        · split <;> split <;> omega
theorem sc_law_far : FnScope ["_law_pen_here", "_law_way"] ["_law_pen_here"] (defScope s_law_far) := ⟨rfl, rfl, rfl, by decide +kernel, rfl, by decide +kernel, by decide +kernel⟩
theorem ok_far {f : Addr} {fd : FuncData} (F : FnP K "_law_far" s_law_far f fd) (T : LwTx K mg) (dDraw : Dn P w K mg base 1 "_law_draw" ["_law_pen_here", "_law_many"] spDraw) (dBig : Dn P w K mg base 2 "_law_big" ["_law_pen_here", "_law_many"] spBig) : FnOk P w K mg base CX0 3 f fd ["_law_pen_here"] spFar := by
  refine F.ok sc_law_far (fun vs H Q E h => ?_) (fun cdv A outer s H vs Q E hr h => ?_)
  · obtain ⟨p, t, rfl, _⟩ := h
    rfl
  · obtain ⟨p, t, rfl, ht, hP, k⟩ := h
    refine ⟨_, PSs.nox (pss_cons (ps_set (i := 1) sc_law_far.nd rfl (Or.inl rfl) (pe_dn dDraw hr (pa_cons (pv 0) (pa_cons pe_int pa_nil))))
      (pss_cons (ps_if (pt_cmpR op_eq (pv 1) pe_int (nomark _)) (pss_one (ps_ret (pe_dn dDraw hr (pa_cons (pv 0) (pa_cons pe_int pa_nil))))) pss_nil)
      (pss_cons (ps_if (pt_cmpR op_eq (pv 1) pe_int (nomark _)) (pss_one (ps_ret (pe_dn dDraw hr (pa_cons (pv 0) (pa_cons pe_int pa_nil))))) pss_nil)
      (pss_one (ps_ret (pe_dn dBig hr (pa_cons (pv 0) (pa_cons (pe_op op_pow pe_int pe_int) pa_nil)))))))), ?_⟩
    have b6 : (600 : Int) < big30 := by decide
    refine ⟨_, rfl, p, 3, t, rfl, by decide, by decide, by omega, hP, fun H1 d d0 d1 hP1 kp1 => ?_⟩
    refine ⟨_, rfl, rfl, _, rfl, ite2 (fun _ => ?_) (fun _ => ?_)⟩
    · exact ⟨_, rfl, p, 6, t + 1, rfl, by decide, by decide, by omega, hP1, fun H2 e e0 e1 hP2 kp2 => k _ _ e0 (by omega) (hP2.mono (by omega)) (kp1.trans kp2)⟩
    · refine ⟨_, rfl, rfl, _, rfl, ite2 (fun _ => ?_) (fun _ => ?_)⟩
      · exact ⟨_, rfl, p, 600, t + 1, rfl, by decide, by decide, by omega, hP1, fun H2 e e0 e1 hP2 kp2 => k _ _ e0 (by omega) (hP2.mono (by omega)) (kp1.trans kp2)⟩
      · exact ⟨_, rfl, _, _, rfl, rfl, ⟨by decide, by decide, by decide⟩, p, t + 1, rfl, by omega, hP1, fun H2 e e0 e1 hP2 kp2 => k _ _ e0 e1 (hP2.mono (by omega)) (kp1.trans kp2)⟩
theorem sc_law_integer : FnScope ["_law_value"] ["_law_value"] (defScope s_law_integer) := ⟨rfl, rfl, rfl, by decide +kernel, rfl, by decide +kernel, by decide +kernel⟩
theorem ok_integer {f : Addr} {fd : FuncData} (F : FnP K "_law_integer" s_law_integer f fd) (T : LwTx K mg) : FnOk P w K mg base CX0 1 f fd ["_law_value"] spInteger := by
  refine F.ok sc_law_integer (fun vs H Q E h => ?_) (fun cdv A outer s H vs Q E hr h => ?_)
  · obtain ⟨v, rfl, _⟩ := h
    rfl
  · obtain ⟨i, rfl, q⟩ := h
    refine ⟨_, PSs.nox (pss_one (ps_ret (pe_and (pe_callB call_isi (by rfl) T.isi (by decide +kernel) (pa_cons (pv 0) (pa_cons (pe_bltn (v := .ty "int") (by rfl) T.int (by decide +kernel) rfl) pa_nil))) (pe_one (pe_not (pe_callB call_isi (by rfl) T.isi (by decide +kernel) (pa_cons (pv 0) (pa_cons (pe_bltn (v := .ty "bool") (by rfl) T.bool (by decide +kernel) rfl) pa_nil)))))))), ?_⟩
    refine ⟨_, rfl, _, _, _, _, _, rfl, .ty _, .base (.int i), kii, _, rfl, iteT ?_⟩
    exact ⟨_, rfl, _, _, _, _, _, rfl, .ty _, .base (.int i), kib, _, rfl, q⟩
theorem sc_law_divisor : FnScope ["_law_a", "_law_b"] ["_law_a", "_law_b"] (defScope s_law_divisor) := ⟨rfl, rfl, rfl, by decide +kernel, rfl, by decide +kernel, by decide +kernel⟩
theorem ok_divisor {f : Addr} {fd : FuncData} (F : FnP K "_law_divisor" s_law_divisor f fd) (T : LwTx K mg) : FnOk P w K mg base CX0 1 f fd ["_law_a", "_law_b"] spDivisor := by
  refine F.ok sc_law_divisor (fun vs H Q E h => ?_) (fun cdv A outer s H vs Q E hr h => ?_)
  · obtain ⟨a, b, rfl, _⟩ := h
    rfl
  · obtain ⟨a, b, rfl, k⟩ := h
    refine ⟨_, PSs.nox (pss_cons (ps_par (i := 0) (j := 1) (by rfl) sc_law_divisor.nd rfl rfl (by decide) rfl rfl (pa_cons (pe_callB call_abs (by rfl) T.abs (by decide +kernel) (pa_cons (pv 0) pa_nil)) (pa_cons (pe_callB call_abs (by rfl) T.abs (by decide +kernel) (pa_cons (pv 1) pa_nil)) pa_nil)) (by rfl))
      (pss_cons (ps_while PassesOwn.never (pt_cmpR op_gt (pv 1) pe_int (nomark _)) (pss_one (ps_par (i := 0) (j := 1) (by rfl) sc_law_divisor.nd rfl rfl (by decide) rfl rfl (pa_cons (pv 1) (pa_cons (pe_op op_modN (pe_callTy call_int1 (by rfl) T.int (by decide +kernel) (pa_cons (pv 0) pa_nil)) (pv 1)) pa_nil)) (by rfl))))
      (pss_one (ps_ret (pv 0))))), ?_⟩
    refine ⟨_, rfl, _, rfl, _, rfl, _, rfl, _, _, rfl, ?_⟩
    rw [abs_of, abs_of]
    refine while_by (fun σ H' => ∃ x y : Nat, σ = [some (.int x), some (.int y)] ∧ H' = H ∧ Nat.gcd x y = Nat.gcd a.natAbs b.natAbs) (fun σ _ => match σ with | [_, some (.int y)] => y.toNat | _ => 0) ⟨_, _, rfl, rfl, rfl⟩ ?_ ?_
    · rintro σ H2 ⟨x, y, rfl, rfl, e⟩
      refine ⟨_, rfl, _, _, rfl, rfl, _, rfl, ite2 (fun h => ?_) (fun h => ?_)⟩
      · have hy : 0 < (y : Int) := of_decide_eq_true h
        have hyn : 0 < y := by omega
        refine ⟨_, rfl, _, rfl, .inl ⟨_, rfl, _, rfl, _, _, rfl, rfl, by omega, _, _, rfl, ?_⟩⟩
        have em : (x : Int).fmod (y : Int) = ((x % y : Nat) : Int) := by
          rw [Int.fmod_eq_emod_of_nonneg _ (by omega)]
          rfl
        refine ⟨⟨y, x % y, congrArg (fun z => [some (V.int (y : Int)), some (V.int z)]) em, rfl, ?_⟩, ?_⟩
        · rw [← e, Nat.gcd_comm x y, Nat.gcd_rec y x, Nat.gcd_comm]
        · show ((x : Int).fmod (y : Int)).toNat < ((y : Int)).toNat
          rw [em]
          have := Nat.mod_lt x hyn
          omega
      · have hy : ¬ 0 < (y : Int) := fun z => h (decide_eq_true z)
        have hyn : y = 0 := by omega
        subst hyn
        rw [Nat.gcd_zero_right] at e
        subst e
        exact ⟨_, rfl, k⟩
    · rintro σ H2 Q1 Q2 hq ⟨x, hx, y, z, e0, e1, u, e2, e3⟩
      exact ⟨x, hx, y, z, e0, e1, u, e2, hq _ _ e3⟩
theorem sc_law_place_due : FnScope ["_law_row", "_law_g"] ["_law_row"] (defScope s_law_place_due) := ⟨rfl, rfl, rfl, by decide +kernel, rfl, by decide +kernel, by decide +kernel⟩
theorem ok_due {f : Addr} {fd : FuncData} (F : FnP K "_law_place_due" s_law_place_due f fd) (T : LwTx K mg) (dDivisor : Dn P w K mg base 1 "_law_divisor" ["_law_a", "_law_b"] spDivisor) : FnOk P w K mg base CX0 2 f fd ["_law_row"] (spDue K) := by
  refine F.ok sc_law_place_due (fun vs H Q E h => ?_) (fun cdv A outer s H vs Q E hr h => ?_)
  · obtain ⟨r, a, b, c, d, rfl, _⟩ := h
    rfl
  · obtain ⟨r, a, b, c, d, rfl, hS, hd, hd2, k⟩ := h
    refine ⟨_, PSs.nox (pss_cons (ps_set (i := 1) sc_law_place_due.nd rfl (Or.inl rfl) (pe_dn dDivisor hr (pa_cons (pe_ix ix_tup (pv 0) pe_int (fun _ _ => rfl)) (pa_cons (pe_dn dDivisor hr (pa_cons (pe_ix ix_tup (pv 0) pe_int (fun _ _ => rfl)) (pa_cons (pe_ix ix_tup (pv 0) pe_int (fun _ _ => rfl)) pa_nil))) pa_nil))))
      (pss_one (ps_ret (pe_tup (pa_cons (pe_op op_fdivN (pe_ix ix_tup (pv 0) pe_int (fun _ _ => rfl)) (pv 1)) (pa_cons (pe_op op_fdivN (pe_ix ix_tup (pv 0) pe_int (fun _ _ => rfl)) (pv 1)) (pa_cons (pe_op op_fdivN (pe_ix ix_tup (pv 0) pe_int (fun _ _ => rfl)) (pv 1)) (pa_cons (pe_op op_fdivN (pe_ix ix_tup (pv 0) pe_int (fun _ _ => rfl)) (pv 1)) pa_nil)))))))), ?_⟩
    have g0 : atI ([.int a, .int b, .int c, .int d] : List V) 0 = some (.int a) := atI_nat (xs := ([V.int a, V.int b, V.int c, V.int d] : List V)) (j := 0) rfl
    have g1 : atI ([.int a, .int b, .int c, .int d] : List V) 1 = some (.int b) := atI_nat (xs := ([V.int a, V.int b, V.int c, V.int d] : List V)) (j := 1) rfl
    have g2 : atI ([.int a, .int b, .int c, .int d] : List V) 2 = some (.int c) := atI_nat (xs := ([V.int a, V.int b, V.int c, V.int d] : List V)) (j := 2) rfl
    have g3 : atI ([.int a, .int b, .int c, .int d] : List V) 3 = some (.int d) := atI_nat (xs := ([V.int a, V.int b, V.int c, V.int d] : List V)) (j := 3) rfl
    refine ⟨_, rfl, r, _, _, _, rfl, rfl, hS, g3, _, rfl, r, _, _, _, rfl, rfl, hS, g0, _, rfl, r, _, _, _, rfl, rfl, hS, g1, a, b, rfl, d, _, rfl, ?_⟩
    have eg : (Nat.gcd d.natAbs ((Nat.gcd a.natAbs b.natAbs : Nat) : Int).natAbs : Nat) = gg a b d := by
      rw [Int.natAbs_natCast, Nat.gcd_comm]
      rfl
    rw [eg]
    have hg0 : 0 < gg a b d := Nat.gcd_pos_of_pos_right _ (by omega)
    have hgd : gg a b d ≤ d.natAbs := Nat.le_of_dvd (by omega) (Nat.gcd_dvd_right _ _)
    have hgc : ((gg a b d : Nat) : Int) ≠ 0 ∧ ((gg a b d : Nat) : Int).natAbs < 1073741824 := ⟨by omega, by omega⟩
    refine ⟨_, rfl, r, _, _, _, rfl, rfl, hS, g0, _, rfl, _, _, rfl, rfl, hgc, ?_⟩
    refine ⟨_, rfl, r, _, _, _, rfl, rfl, hS, g1, _, rfl, _, _, rfl, rfl, hgc, ?_⟩
    refine ⟨_, rfl, r, _, _, _, rfl, rfl, hS, g2, _, rfl, _, _, rfl, rfl, hgc, ?_⟩
    refine ⟨_, rfl, r, _, _, _, rfl, rfl, hS, g3, _, rfl, _, _, rfl, rfl, hgc, sz4, fun t ht => ?_⟩
    exact k t ht
end
end K20

set_option maxHeartbeats 4000000
namespace K20
open PySem PySem.Spec PyProof.Rows L2 Z
/-- the methods of a place -/
structure PM (P : Program) (w : World) (K : PySem.W.Frag) (mg : Str → Option Value) (base : Heap) : Prop where
  call : ∃ fd, FnOk P w K mg base CX0 2 (He.ma K (CP K) "__call__") fd ["self", "i", "n"] (spPCall K) ∧ Binds K fd ["self", "i", "n"] [] ∧ StX.CallO K (CP K) (He.ma K (CP K) "__call__")
  repl : ∃ fd, FnOk P w K mg base CX0 6 (He.ma K (CP K) "replaced") fd ["self", "factor", "shift"] (spPRepl K) ∧ Binds K fd ["self", "factor", "shift"] [] ∧ Meth K (CP K) "replaced" (He.ma K (CP K) "replaced")
def spRefused (K : PySem.W.Frag) : Sp := fun vs H Q _ => ∃ n way : Int, vs = [.int n, .int way] ∧ n < 1 ∧ ∀ t H', Same H H' → H' t = some (.tup [.str "divisor", .int n]) → Q (.ref t) H'
def spMoved (K : PySem.W.Frag) : Sp := fun vs H Q _ => ∃ (p r q : Addr) (a b c d : Int) (t : Nat), vs = [.ref p, .ref r, .ref q] ∧ H r = some (.tup [.int a, .int b, .int c, .int d]) ∧ PlcAt K H q (a.fdiv (gg a b d)) (b.fdiv (gg a b d)) (c.fdiv (gg a b d)) (d.fdiv (gg a b d)) ∧
  -100 ≤ a ∧ a ≤ 100 ∧ -100 ≤ b ∧ b ≤ 100 ∧ 0 < d ∧ d ≤ 1000 ∧ t < 700000000 ∧ Pen H p t ∧ ∀ H', Pen H' p (t + 20) → Keep p H H' → Q (.bl true) H'
theorem look_n {n : Int} : (bnF "divisor" (.int n)).lookup ("number" : Str) = some (.int n) := by
  unfold bnF
  exact look_hd
theorem wn_ : ¬ (("what" : Str) = "number") := by decide +kernel
theorem look_w {v : V} {w : Str} : (bnF w v).lookup ("what" : Str) = some (.str w) := by
  unfold bnF
  rw [look_tl wn_]
  exact look_hd
theorem if_no {b : Bool} {A B : Prop} (h : b = false) (k : B) : if b = true then A else B := by
  rw [h]
  exact k
theorem not_dec {p : Prop} [Decidable p] (h : p) : (!decide p) = false := by
  rw [decide_eq_true h]
  rfl
theorem sm_of {x : Int} (h1 : -100000 ≤ x) (h2 : x ≤ 100000) : Sm x := by
  unfold Sm
  omega
section
variable {P : Program} {w : World} {K : PySem.W.Frag} {mg : Str → Option Value} {base : Heap}
theorem sc_law_refused_divisor : FnScope ["_law_number", "_law_way", "_law_told", "e"] ["_law_number", "_law_way"] (defScope s_law_refused_divisor) := ⟨rfl, rfl, rfl, by decide +kernel, rfl, by decide +kernel, by decide +kernel⟩
theorem ok_refused {f : Addr} {fd : FuncData} (F : FnP K "_law_refused_divisor" s_law_refused_divisor f fd) (T : LwTx K mg) (M : MkS P w K mg base) (MP : MkP P w K mg base) (EB : EC K mg "BadNumber" ["what", "number"])
    (ex : PySem.W.exmOne K (.ref (CB K)) (.ref (CB K)) = some true) (OF : OmX P w K mg base (CS K) 6 (dunder "floordiv") (spFdiv K)) (If : OpI K (CS K) "floordiv") : FnOk P w K mg base CX0 7 f fd ["_law_number", "_law_way"] (spRefused K) := by
  refine F.ok sc_law_refused_divisor (fun vs H Q E h => ?_) (fun cdv A outer s H vs Q E hr h => ?_)
  · obtain ⟨n, way, rfl, _⟩ := h
    rfl
  · obtain ⟨n, way, rfl, hn, k⟩ := h
    refine ⟨_, PSs.nox (pss_cons (ps_set (i := 2) sc_law_refused_divisor.nd rfl (Or.inl rfl) pe_non)
      (pss_cons (ps_try_as (i := 3) rfl rfl sc_law_refused_divisor.nd rfl rfl ⟨rfl, by decide, .inl EB.gC⟩ takes0 (fun W pn xe tk _ => (pss_one (ps_if (pt_cmpR op_eq (pv 1) pe_int (nomark _)) (pss_one (ps_set (i := 2) sc_law_refused_divisor.nd rfl (Or.inl rfl) (pe_PT (K := K) tk rfl T.toPlTx MP hr (pa_cons (pe_SK (K := K) rfl T.toStTx M hr (pa_cons pe_int (pa_cons pe_int (pa_cons pe_int pa_nil)))) (pa_cons (pv 0) pa_nil))))) (pss_one (ps_set (i := 2) sc_law_refused_divisor.nd rfl (Or.inl rfl) (pe_SfdT (K := K) tk rfl OF If T.toStTx M hr (pa_cons pe_int (pa_cons pe_int (pa_cons pe_int pa_nil))) (pv 0))))))) (fun a oe cls d pn hz hf => (pss_one (ps_set (i := 2) sc_law_refused_divisor.nd rfl (Or.inl rfl) (pe_tup (pa_cons (pe_xf EB.ex.xf (EB.na _ (by simp)) hz hf (pv 3)) (pa_cons (pe_xf EB.ex.xf (EB.na _ (by simp)) hz hf (pv 3)) pa_nil)))))))
      (pss_one (ps_ret (pv 2))))), ?_⟩
    have z1 : ¬ 1 ≤ n := by omega
    refine ⟨_, rfl, rfl, _, rfl, ite2 (fun _ => ?_) (fun _ => ?_)⟩
    · refine ⟨1, 2, 3, rfl, fun p H1 s1 _ hS => ⟨_, rfl, _, n, rfl, 1, 2, 3, .inl ⟨p, rfl, hS⟩, fun _ e H2 s2 he => ?_, fun z => absurd z z1⟩⟩
      refine ⟨true, ex, fun _ a ha => ?_, fun q => Bool.noConfusion q⟩
      refine ⟨_, rfl, rfl, rfl, e, _, _, rfl, he, look_w, _, rfl, rfl, rfl, e, _, _, rfl, he, look_n, sz2, fun t ht => ?_⟩
      exact ⟨_, rfl, k t _ (Same.new _ (s1.trans s2) ht) upd_same⟩
    · refine ⟨1, 2, 3, rfl, fun p H1 s1 _ hS => ⟨_, rfl, p, 1, 2, 3, n, rfl, rfl, hS, fun _ e H2 s2 he => ?_, fun z => absurd z z1⟩⟩
      refine ⟨true, ex, fun _ a ha => ?_, fun q => Bool.noConfusion q⟩
      refine ⟨_, rfl, rfl, rfl, e, _, _, rfl, he, look_w, _, rfl, rfl, rfl, e, _, _, rfl, he, look_n, sz2, fun t ht => ?_⟩
      exact ⟨_, rfl, k t _ (Same.new _ (s1.trans s2) ht) upd_same⟩
theorem sc_law_moved_right : FnScope ["_law_pen_here", "_law_row", "_law_place", "_law_many", "_law_shift", "_law_a", "_law_b", "_law_c", "_law_d", "_law_moved", "_law_i", "_law_n"] ["_law_pen_here", "_law_row", "_law_place"] (defScope s_law_moved_right) := ⟨rfl, rfl, rfl, by decide +kernel, rfl, by decide +kernel, by decide +kernel⟩
theorem ok_moved {f : Addr} {fd : FuncData} (F : FnP K "_law_moved_right" s_law_moved_right f fd) (T : LwTx K mg) (M : MkS P w K mg base) (MP : MkP P w K mg base) (PMm : PM P w K mg base) (OP : Om P w K mg base (CP K) 2 "__eq__" (spPEq K)) (nf : PySem.W.notFirst K (CP K) (.ref (CP K)) = true)
    (dDraw : Dn P w K mg base 1 "_law_draw" ["_law_pen_here", "_law_many"] spDraw) (dBetween : Dn P w K mg base 2 "_law_between" ["_law_pen_here", "_law_least", "_law_most"] spBetween) (dFar : Dn P w K mg base 3 "_law_far" ["_law_pen_here"] spFar) : FnOk P w K mg base CX0 7 f fd ["_law_pen_here", "_law_row", "_law_place"] (spMoved K) := by
  refine F.ok sc_law_moved_right (fun vs H Q E h => ?_) (fun cdv A outer s H vs Q E hr h => ?_)
  · obtain ⟨p, r, q, a, b, c, d, t, rfl, _⟩ := h
    rfl
  · obtain ⟨p, r, q, a, b, c, d, t, rfl, hr4, hq, a0, a1, b0, b1, d0, d1, ht, hP, k⟩ := h
    obtain ⟨fdr, Fr, hbr, cr⟩ := PMm.repl
    obtain ⟨fdc, Fc, hbc, cc⟩ := PMm.call
    refine ⟨_, PSs.nox (pss_cons (ps_par (i := 3) (j := 4) (by rfl) sc_law_moved_right.nd rfl rfl (by decide) rfl rfl (pa_cons (pe_op op_sub (pe_dn dDraw hr (pa_cons (pv 0) (pa_cons pe_int pa_nil))) pe_int) (pa_cons (pe_dn dBetween hr (pa_cons (pv 0) (pa_cons (pe_un un_neg pe_int) (pa_cons pe_int pa_nil)))) pa_nil)) (by rfl))
      (pss_cons (ps_asg (pv 1) (pg_tup (by rfl) (pgs_cons (pg_name (i := 5) sc_law_moved_right.nd rfl (.inl rfl)) (pgs_cons (pg_name (i := 6) sc_law_moved_right.nd rfl (.inl rfl)) (pgs_cons (pg_name (i := 7) sc_law_moved_right.nd rfl (.inl rfl)) (pgs_cons (pg_name (i := 8) sc_law_moved_right.nd rfl (.inl rfl)) pgs_nil))))))
      (pss_cons (ps_par3 (i := 9) (j := 10) (l := 11) (by rfl) sc_law_moved_right.nd rfl rfl rfl (by decide) (by decide) (by decide) rfl rfl rfl (pa_cons (pe_meth (pv 2) T.clP cr Fr (hr.mono (by decide)) hbr .nil pass0 (pa_cons (pv 3) (pa_cons (pv 4) pa_nil))) (pa_cons (pe_dn dFar hr (pa_cons (pv 0) pa_nil)) (pa_cons (pe_dn dFar hr (pa_cons (pv 0) pa_nil)) pa_nil))) (by rfl))
      (pss_cons (ps_if (pt_cmpR op_ne (StX.pe_callO (pv 9) cc (FnOk.raw Fc hbc .nil) (hr.mono (by decide)) pass0 (pa_cons (pv 10) (pa_cons (pv 11) pa_nil))) (pe_op op_fdivN (pe_op op_add (pe_op op_add (pe_op op_mul (pv 5) (pe_op op_add (pe_op op_mul (pv 3) (pv 10)) (pv 4))) (pe_op op_mul (pv 6) (pv 11))) (pv 7)) (pv 8)) (nomark _)) (pss_one (ps_ret pe_bl)) pss_nil)
      (pss_one (ps_ret (pe_cmpR (op_eqOwn OP hr) (pv 9) (pe_P T.toPlTx MP hr at_E0 (pa_cons (pe_S T.toStTx M hr (pa_cons (pe_op op_mul (pv 5) (pv 3)) (pa_cons (pv 6) (pa_cons (pe_op op_add (pe_op op_mul (pv 5) (pv 4)) (pv 7)) pa_nil)))) (pa_cons (pv 8) pa_nil))) (nomark _)))))))), ?_⟩
    refine ⟨_, rfl, p, 7, t, rfl, by decide, by decide, by omega, hP, fun H1 m m0 m1 hP1 kp1 => ⟨_, _, rfl, rfl, ?_⟩⟩
    refine ⟨_, rfl, _, rfl, p, _, 99, t + 1, rfl, by decide, by decide, by omega, hP1, fun H2 sh s0 s1 hP2 kp2 => ⟨_, _, rfl, ?_⟩⟩
    have hr2 : H2 r = some (.tup [.int a, .int b, .int c, .int d]) := by
      have n1 : r ≠ p := hP.ne hr4 (fun _ z => by cases z)
      exact kp2 _ _ n1 (kp1 _ _ n1 hr4)
    have hq2 : PlcAt K H2 q (a.fdiv (gg a b d)) (b.fdiv (gg a b d)) (c.fdiv (gg a b d)) (d.fdiv (gg a b d)) := (hq.keep hP kp1).keep hP1 kp2
    have g0 : (0 : Int) < (gg a b d : Nat) := by exact_mod_cast gg_pos d0
    have dv := dv_bd (a := a) (b := b) d0
    have fa := fdiv_bd g0 (M := 100) (by decide) a0 a1
    have fb := fdiv_bd g0 (M := 100) (by decide) b0 b1
    refine ⟨_, rfl, r, _, rfl, SqT.of hr2, rfl, _, _, rfl, _, _, rfl, _, _, rfl, _, _, rfl, rfl, ?_⟩
    obtain ⟨dx, q', hq3, hq4⟩ := id hq2
    refine ⟨_, rfl, q, dx, _, rfl, hq3, pf_no _ _ (by decide +kernel) (by decide +kernel), ?_⟩
    refine ⟨_, rfl, _, rfl, q, _, _, _, _, m - 2, sh, rfl, hq2, sm_of (by omega) (by omega), dv.1, by omega, fun u H3 s3 hu => ?_⟩
    have hP3 : Pen H3 p (t + 1 + 2) := hP2.same s3
    refine ⟨_, rfl, p, _, rfl, by omega, hP3, fun H4 i i0 i1 hP4 kp4 => ?_⟩
    refine ⟨_, rfl, p, _, rfl, by omega, hP4, fun H5 n n0 n1 hP5 kp5 => ⟨_, _, _, rfl, ?_⟩⟩
    have hu5 := (hu.keep hP3 kp4).keep hP4 kp5
    have fam : -400 ≤ a.fdiv (gg a b d) * (m - 2) ∧ a.fdiv (gg a b d) * (m - 2) ≤ 400 := by
      have h7 : m = 0 ∨ m = 1 ∨ m = 2 ∨ m = 3 ∨ m = 4 ∨ m = 5 ∨ m = 6 := by omega
      rcases h7 with z | z | z | z | z | z | z <;> subst z <;> omega
    have dvp : 0 < d.fdiv (gg a b d) := by omega
    have g20 : (0 : Int) < (gg (a.fdiv (gg a b d) * (m - 2)) (b.fdiv (gg a b d)) (d.fdiv (gg a b d)) : Nat) := by exact_mod_cast gg_pos dvp
    have f2 := fdiv_bd g20 (M := 400) (by decide) fam.1 fam.2
    have f3 := fdiv_bd g20 (M := 100) (by decide) fb.1 fb.2
    have dv2 := dv_bd (a := a.fdiv (gg a b d) * (m - 2)) (b := b.fdiv (gg a b d)) dvp
    obtain ⟨dxu, qu, hu6, hu7⟩ := id hu5
    refine ⟨_, rfl, u, rfl, _, rfl, _, rfl, .inr ⟨_, _, hu6⟩, u, _, _, _, _, i, n, rfl, hu5, sm_of (by omega) (by omega), sm_of (by omega) (by omega), by omega, by omega, ?_⟩
    refine ⟨_, rfl, _, rfl, _, rfl, _, _, rfl, rfl, .inl (sm_of (by omega) (by omega)), _, rfl, _, _, rfl, rfl, _, _, rfl, rfl, .inl (sm_of (by omega) (by omega)), ?_⟩
    refine ⟨_, rfl, _, rfl, _, _, rfl, rfl, .inl (sm_of (by omega) (by omega)), _, _, rfl, rfl, _, rfl, _, _, rfl, rfl, _, rfl, _, _, rfl, rfl, ⟨by omega, by omega⟩, ?_⟩
    refine ⟨rfl, _, rfl, ?_⟩
    refine if_no (not_dec (congrArg V.int ?_)) ?_
    · refine (val_least (c := c.fdiv (gg a b d) + a.fdiv (gg a b d) * sh) dvp).trans ?_
      refine Eq.trans (congrArg (fun z => Int.fdiv z (d.fdiv (gg a b d))) ?_) ((val_least (a := a) (b := b) (c := c) (d := d) (i := (m - 2) * i + sh) (n := n) d0).trans ?_)
      · show a.fdiv (gg a b d) * (m - 2) * i + b.fdiv (gg a b d) * n + (c.fdiv (gg a b d) + a.fdiv (gg a b d) * sh) = a.fdiv (gg a b d) * ((m - 2) * i + sh) + b.fdiv (gg a b d) * n + c.fdiv (gg a b d)
        rw [Int.mul_add, Int.mul_assoc]
        omega
      · rfl
    have lm := least_moved (a := a) (b := b) (c := c) (d := d) (m := m - 2) (s := sh) d0
    refine ⟨_, rfl, _, rfl, _, rfl, _, _, rfl, rfl, .inl (sm_of (by omega) (by omega)), _, rfl, _, rfl, _, rfl, _, _, rfl, rfl, .inl (sm_of (by omega) (by omega)), _, rfl, _, _, rfl, rfl, _, _, _, rfl, fun ps H6 s6 _ hS6 => ?_⟩
    refine ⟨_, rfl, _, d, rfl, _, _, _, .inl ⟨ps, rfl, hS6⟩, fun z => absurd d0 (by omega), fun _ => ⟨by omega, fun pl H7 s7 hpl => ?_⟩⟩
    have hu8 := hu5.same (s6.trans s7)
    obtain ⟨dxv, qv, hv6, hv7⟩ := id hu8
    refine ⟨u, _, _, _, rfl, hv6, T.pty hpl, nf, u, _, _, _, _, _, rfl, hu8, .inl ⟨pl, _, _, _, _, rfl, hpl, ?_⟩⟩
    rw [decide_eq_true ⟨lm.1, lm.2.1, lm.2.2.1, lm.2.2.2⟩]
    exact k _ ((hP5.same (s6.trans s7)).mono (by omega)) (kp1.trans (kp2.trans ((Keep.of s3).trans (kp4.trans (kp5.trans (Keep.of (s6.trans s7)))))))
end
end K20

set_option maxHeartbeats 4000000
namespace K20
open PySem PySem.Spec PyProof.Rows L2 Z
theorem tup4_shaped (a b c d : Int) : SeqAt.shaped (.tuple [.int a, .int b, .int c, .int d]) = true := by simp [SeqAt.shaped, PyData.canLay0, PyData.canLayAll0, PyData.depth, PyData.depthAll]
theorem eqv4 (a b c d x y z u : Int) : PyData.eqv (.tuple [.int a, .int b, .int c, .int d]) (.tuple [.int x, .int y, .int z, .int u]) = decide (a = x ∧ b = y ∧ c = z ∧ d = u) := by
  simp [PyData.eqv, PyData.eqvAll]
  rfl
theorem gg00 (d : Int) (h : 0 < d) : ((gg 0 0 d : Nat) : Int) = d := by
  have e : gg 0 0 d = d.natAbs := by
    unfold gg
    simp
  rw [e]
  omega
theorem eq_self {d : PyData} (h : SeqAt.shaped d = true) : (!PyData.eqv d d) = false := by
  rw [SeqAt.eqv_refl d (SeqAt.canLay_of_shaped h)]
  rfl
theorem dp4 {K : PySem.W.Frag} {H : Hp} {t : Addr} {a b c d : Int} (h : H t = some (.tup [.int a, .int b, .int c, .int d])) : Dp K H (.ref t) (.tuple [.int a, .int b, .int c, .int d]) := .tup (SqT.of h) (.cons (.int _) (.cons (.int _) (.cons (.int _) (.cons (.int _) .nil))))
def spPlaceR : Sp := fun vs H Q _ => ∃ (p : Addr) (t : Nat), vs = [.ref p] ∧ t < 600000000 ∧ Pen H p t ∧ ∀ H', Pen H' p (t + 100) → Keep p H H' → Q (.bl true) H'
/-- how the operators of the sums are promised -/
structure Ops (P : Program) (w : World) (K : PySem.W.Frag) (mg : Str → Option Value) (base : Heap) : Prop where
  sa : Om P w K mg base (CS K) 4 (dunder "add") (spSAdd K)
  sm : Om P w K mg base (CS K) 3 (dunder "mul") (spSMul K)
  sr : Om P w K mg base (CS K) 3 (dunderR "mul") (spSMul K)
  fd : OmX P w K mg base (CS K) 6 (dunder "floordiv") (spFdiv K)
  ia : OpI K (CS K) "add"
  im : OpI K (CS K) "mul"
  if_ : OpI K (CS K) "floordiv"
  es : Om P w K mg base (CS K) 1 "__eq__" (spSEq K)
  ep : Om P w K mg base (CP K) 2 "__eq__" (spPEq K)
  pp : PySem.W.notFirst K (CP K) (.ref (CP K)) = true
  ps : PySem.W.notFirst K (CP K) (.ref (CS K)) = true
  sp : PySem.W.notFirst K (CS K) (.ref (CP K)) = true
  pi : PySem.W.notFirst K (CP K) (.type "int") = true
  pt : PySem.W.notFirst K (CP K) (.type "str") = true
  kt : PySem.W.kitOne K (.type "str") (.ref (CP K)) = some false
theorem if_join {b : Bool} {A : Prop} {N : L2.St → Hp → Prop} {σ : L2.St} {H : Hp} (W : L2.St → Hp → Prop) (h1 : (∀ σ' H', W σ' H' → N σ' H') → A) (h2 : W σ H) (h3 : ∀ σ' H', W σ' H' → N σ' H') : if b = true then A else N σ H := by
  cases b
  · exact h3 _ _ h2
  · exact h1 h3
section
variable {P : Program} {w : World} {K : PySem.W.Frag} {mg : Str → Option Value} {base : Heap}
theorem sc_law_place_right : FnScope ["_law_pen_here", "_law_common", "_law_a", "_law_b", "_law_c", "_law_d", "_law_place", "_law_i", "_law_n", "_law_least", "_law_told", "_law_counter", "_law_size", "_law_other", "_law_near", "_law_whole"] ["_law_pen_here"] (defScope s_law_place_right) := ⟨rfl, rfl, rfl, by decide +kernel, rfl, by decide +kernel, by decide +kernel⟩
theorem ok_placeR {f : Addr} {fd : FuncData} (F : FnP K "_law_place_right" s_law_place_right f fd) (T : LwTx K mg) (M : MkS P w K mg base) (MP : MkP P w K mg base) (PMm : PM P w K mg base) (O : Ops P w K mg base)
    (dDraw : Dn P w K mg base 1 "_law_draw" ["_law_pen_here", "_law_many"] spDraw) (dBetween : Dn P w K mg base 2 "_law_between" ["_law_pen_here", "_law_least", "_law_most"] spBetween) (dFar : Dn P w K mg base 3 "_law_far" ["_law_pen_here"] spFar)
    (dBig : Dn P w K mg base 2 "_law_big" ["_law_pen_here", "_law_many"] spBig) (dDue : Dn P w K mg base 2 "_law_place_due" ["_law_row"] (spDue K)) (dInteger : Dn P w K mg base 1 "_law_integer" ["_law_value"] spInteger)
    (dMoved : Dn P w K mg base 7 "_law_moved_right" ["_law_pen_here", "_law_row", "_law_place"] (spMoved K)) : FnOk P w K mg base CX0 8 f fd ["_law_pen_here"] spPlaceR := by
  refine F.ok sc_law_place_right (fun vs H Q E h => ?_) (fun cdv A outer s H vs Q E hr h => ?_)
  · obtain ⟨p, t, rfl, _⟩ := h
    rfl
  · obtain ⟨p, t, rfl, ht, hP, k⟩ := h
    obtain ⟨fdc, Fc, hbc, cc⟩ := PMm.call
    refine ⟨_, PSs.nox (pss_cons (ps_set (i := 1) sc_law_place_right.nd rfl (Or.inl rfl) (pe_op op_add pe_int (pe_dn dDraw hr (pa_cons (pv 0) (pa_cons pe_int pa_nil)))))
      (pss_cons (ps_par (i := 2) (j := 3) (by rfl) sc_law_place_right.nd rfl rfl (by decide) rfl rfl (pa_cons (pe_op op_mul (pv 1) (pe_op op_sub (pe_dn dDraw hr (pa_cons (pv 0) (pa_cons pe_int pa_nil))) pe_int)) (pa_cons (pe_op op_mul (pv 1) (pe_op op_sub (pe_dn dDraw hr (pa_cons (pv 0) (pa_cons pe_int pa_nil))) pe_int)) pa_nil)) (by rfl))
      (pss_cons (ps_par (i := 4) (j := 5) (by rfl) sc_law_place_right.nd rfl rfl (by decide) rfl rfl (pa_cons (pe_dn dBetween hr (pa_cons (pv 0) (pa_cons (pe_un un_neg pe_int) (pa_cons pe_int pa_nil)))) (pa_cons (pe_op op_mul (pv 1) (pe_op op_add pe_int (pe_dn dDraw hr (pa_cons (pv 0) (pa_cons pe_int pa_nil))))) pa_nil)) (by rfl))
      (pss_cons (ps_if (pt_cmpR op_eq (pe_dn dDraw hr (pa_cons (pv 0) (pa_cons pe_int pa_nil))) pe_int (nomark _)) (pss_one (ps_set (i := 4) sc_law_place_right.nd rfl (Or.inl rfl) (pe_op op_sub (pe_op op_add (pv 4) (pe_dn dBig hr (pa_cons (pv 0) (pa_cons (pe_op op_pow pe_int pe_int) pa_nil)))) (pe_op op_mul pe_int (pe_op op_pow pe_int pe_int))))) pss_nil)
      (pss_cons (ps_par3 (i := 6) (j := 7) (l := 8) (by rfl) sc_law_place_right.nd rfl rfl rfl (by decide) (by decide) (by decide) rfl rfl rfl (pa_cons (pe_P T.toPlTx MP hr at_E0 (pa_cons (pe_S T.toStTx M hr (pa_cons (pv 2) (pa_cons (pv 3) (pa_cons (pv 4) pa_nil)))) (pa_cons (pv 5) pa_nil))) (pa_cons (pe_dn dFar hr (pa_cons (pv 0) pa_nil)) (pa_cons (pe_dn dFar hr (pa_cons (pv 0) pa_nil)) pa_nil))) (by rfl))
      (pss_cons (ps_set (i := 9) sc_law_place_right.nd rfl (Or.inl rfl) (pe_dn dDue hr (pa_cons (pe_tup (pa_cons (pv 2) (pa_cons (pv 3) (pa_cons (pv 4) (pa_cons (pv 5) pa_nil))))) pa_nil)))
      (pss_cons (ps_if (pt_cmpR (op_neD hr.units) (pe_tup (pa_cons (pe_fld (pe_fld (pv 6) rfl) rfl) (pa_cons (pe_fld (pe_fld (pv 6) rfl) rfl) (pa_cons (pe_fld (pe_fld (pv 6) rfl) rfl) (pa_cons (pe_fld (pv 6) rfl) pa_nil))))) (pv 9) (nomark _)) (pss_one (ps_ret pe_bl)) pss_nil)
      (pss_cons (ps_set (i := 10) sc_law_place_right.nd rfl (Or.inl rfl) (StX.pe_callO (pv 6) cc (FnOk.raw Fc hbc .nil) (hr.mono (by decide)) pass0 (pa_cons (pv 7) (pa_cons (pv 8) pa_nil))))
      (pss_cons (ps_if (PW.pt (pw_or (pt_cmpR op_ne (pv 10) (pe_op op_fdivN (pe_op op_add (pe_op op_add (pe_op op_mul (pv 2) (pv 7)) (pe_op op_mul (pv 3) (pv 8))) (pv 4)) (pv 5)) (nomark _)) (pw_or1 (pt_not (pt_val (pe_dn dInteger hr (pa_cons (pv 10) pa_nil))))))) (pss_one (ps_ret pe_bl)) pss_nil)
      (pss_cons (ps_par (i := 11) (j := 12) (by rfl) sc_law_place_right.nd rfl rfl (by decide) rfl rfl (pa_cons (pe_S T.toStTx M hr (pa_cons pe_int (pa_cons pe_int (pa_cons pe_int pa_nil)))) (pa_cons (pe_S T.toStTx M hr (pa_cons pe_int (pa_cons pe_int (pa_cons pe_int pa_nil)))) pa_nil)) (by rfl))
      (pss_cons (ps_set (i := 13) sc_law_place_right.nd rfl (Or.inl rfl) (pe_fdS O.fd O.if_ hr at_E0 (pe_op (op_ownI O.sa O.ia hr) (pe_op (op_own O.sa O.ia hr) (pe_op (op_reflMul O.sm O.sr O.im hr) (pv 2) (pv 11)) (pe_op (op_ownI O.sm O.im hr) (pv 12) (pv 3))) (pv 4)) (pv 5)))
      (pss_cons (ps_if (PW.pt (pw_or (pt_not (pt_cmpR (op_eqOwn O.ep hr) (pv 13) (pv 6) (nomark _))) (pw_or (pt_not (pt_val (pe_callB call_isi (by rfl) T.isi (by decide +kernel) (pa_cons (pv 13) (pa_cons (pe_glob (v := .ref (CP K)) rfl T.gP rfl) pa_nil))))) (pw_or (pt_cmpR (op_eqOwn O.ep hr) (pv 6) (pe_fld (pv 6) rfl) (nomark _)) (pw_or1 (pt_cmpR (op_eqOwn O.es hr) (pe_fld (pv 6) rfl) (pv 6) (nomark _))))))) (pss_one (ps_ret pe_bl)) pss_nil)
      (pss_cons (ps_set (i := 14) sc_law_place_right.nd rfl (Or.inl rfl) (pe_tup (pa_cons (pv 2) (pa_cons (pv 3) (pa_cons (pe_op op_sub (pe_op op_add (pv 4) (pe_dn dDraw hr (pa_cons (pv 0) (pa_cons (pe_op op_add (pe_op op_mul pe_int (pv 5)) pe_int) pa_nil)))) (pv 5)) (pa_cons (pv 5) pa_nil))))))
      (pss_cons (ps_if (pt_cmpR op_ne (pe_cmpR (op_eqOwn O.ep hr) (pe_P T.toPlTx MP hr at_E0 (pa_cons (pe_S T.toStTx M hr (pa_cons (pe_ix ix_tup (pv 14) pe_int (fun _ _ => rfl)) (pa_cons (pe_ix ix_tup (pv 14) pe_int (fun _ _ => rfl)) (pa_cons (pe_ix ix_tup (pv 14) pe_int (fun _ _ => rfl)) pa_nil)))) (pa_cons (pv 5) pa_nil))) (pv 6) (nomark _)) (pe_cmpR (op_eqD hr.units) (pe_dn dDue hr (pa_cons (pv 14) pa_nil)) (pv 9) (nomark _)) (nomark _)) (pss_one (ps_ret pe_bl)) pss_nil)
      (pss_cons (ps_set (i := 15) sc_law_place_right.nd rfl (Or.inl rfl) (pe_P T.toPlTx MP hr at_E0 (pa_cons (pv 4) (pa_cons (pv 5) pa_nil))))
      (pss_cons (ps_if (pt_cmpR (op_neD hr.units) (pe_tup (pa_cons (pe_fld (pe_fld (pv 15) rfl) rfl) (pa_cons (pe_fld (pe_fld (pv 15) rfl) rfl) (pa_cons (pe_fld (pe_fld (pv 15) rfl) rfl) (pa_cons (pe_fld (pv 15) rfl) pa_nil))))) (pe_tup (pa_cons pe_int (pa_cons pe_int (pa_cons (pe_op op_fdivN (pv 4) (pv 5)) (pa_cons pe_int pa_nil))))) (nomark _)) (pss_one (ps_ret pe_bl)) pss_nil)
      (pss_cons (ps_if (PW.pt (pw_or (pt_cmpR (op_eqOwn O.ep hr) (pv 15) (pe_op op_fdivN (pv 4) (pv 5)) (nomark _)) (pw_or1 (pt_cmpR (op_eqOwn O.ep hr) (pv 15) pe_str (nomark _))))) (pss_one (ps_ret pe_bl)) pss_nil)
      (pss_one (ps_ret (pe_dn dMoved hr (pa_cons (pv 0) (pa_cons (pe_tup (pa_cons (pv 2) (pa_cons (pv 3) (pa_cons (pv 4) (pa_cons (pv 5) pa_nil))))) (pa_cons (pv 6) pa_nil))))))))))))))))))))))), ?_⟩
    refine ⟨_, rfl, p, 6, t, rfl, by decide, by decide, by omega, hP, fun H1 x1 l1 u1 hP1 k1 => ⟨_, _, rfl, rfl, ?_⟩⟩
    refine ⟨_, rfl, _, rfl, p, 7, t + 1, rfl, by decide, by decide, by omega, hP1, fun H2 x2 l2 u2 hP2 k2 => ⟨_, _, rfl, rfl, _, _, rfl, rfl, .inl ⟨by omega, by omega⟩, ?_⟩⟩
    refine ⟨_, rfl, _, rfl, p, 7, t + 2, rfl, by decide, by decide, by omega, hP2, fun H3 x3 l3 u3 hP3 k3 => ⟨_, _, rfl, rfl, _, _, rfl, rfl, .inl ⟨by omega, by omega⟩, _, _, rfl, ?_⟩⟩
    refine ⟨_, rfl, _, rfl, p, _, 60, t + 3, rfl, by decide, by decide, by omega, hP3, fun H4 x4 l4 u4 hP4 k4 => ?_⟩
    refine ⟨_, rfl, _, rfl, p, 4, t + 5, rfl, by decide, by decide, by omega, hP4, fun H5 x5 l5 u5 hP5 k5 => ⟨_, _, rfl, rfl, _, _, rfl, rfl, .inl ⟨by omega, by omega⟩, _, _, rfl, ?_⟩⟩
    have bd : ∀ x : Int, 0 ≤ x → x < 7 → -18 ≤ (1 + x1) * (x - 3) ∧ (1 + x1) * (x - 3) ≤ 18 := fun x h0 h7 => by
      have c6 : x1 = 0 ∨ x1 = 1 ∨ x1 = 2 ∨ x1 = 3 ∨ x1 = 4 ∨ x1 = 5 := by omega
      rcases c6 with z | z | z | z | z | z <;> subst z <;> omega
    have bdd : 0 < (1 + x1) * (1 + x5) ∧ (1 + x1) * (1 + x5) ≤ 24 := by
      have c6 : x1 = 0 ∨ x1 = 1 ∨ x1 = 2 ∨ x1 = 3 ∨ x1 = 4 ∨ x1 = 5 := by omega
      rcases c6 with z | z | z | z | z | z <;> subst z <;> omega
    obtain ⟨a0, a1⟩ := bd x2 l2 u2
    obtain ⟨b0, b1⟩ := bd x3 l3 u3
    obtain ⟨d0, d1⟩ := bdd
    have kA : Keep p H H5 := k1.trans (k2.trans (k3.trans (k4.trans k5)))
    refine ⟨_, rfl, p, 4, t + 6, rfl, by decide, by decide, by omega, hP5, fun H6 x6 l6 u6 hP6 k6 => ⟨rfl, _, rfl, ?_⟩⟩
    refine if_join (fun σ' H' => ∃ c : Int, σ' = [some (.ref p), some (.int (1 + x1)), some (.int ((1 + x1) * (x2 - 3))), some (.int ((1 + x1) * (x3 - 3))), some (.int c), some (.int ((1 + x1) * (1 + x5))), none, none, none, none, none, none, none, none, none, none] ∧ Pen H' p (t + 14) ∧ Keep p H H') (fun key => ?_) ⟨_, rfl, hP6.mono (by omega), kA.trans k6⟩ ?_
    · refine ⟨_, rfl, _, rfl, _, _, rfl, rfl, ⟨by decide, by decide, by decide⟩, p, t + 7, rfl, by omega, hP6, fun H7 x7 l7 u7 hP7 k7 => ?_⟩
      refine ⟨_, _, rfl, rfl, _, _, rfl, rfl, ⟨by decide, by decide, by decide⟩, _, _, rfl, rfl, .inl ⟨by decide, by decide⟩, _, _, rfl, rfl, ?_⟩
      exact key _ _ ⟨_, rfl, hP7, kA.trans (k6.trans k7)⟩
    rintro σ H7 ⟨c, rfl, hP7, k7⟩
    generalize (1 + x1) * (x2 - 3) = a at *
    generalize (1 + x1) * (x3 - 3) = b at *
    generalize (1 + x1) * (1 + x5) = d at *
    clear hP1 hP2 hP3 hP4 hP5 hP6 k1 k2 k3 k4 k5 k6 kA hP bd
    have g0 : (0 : Int) < (gg a b d : Nat) := by exact_mod_cast gg_pos d0
    have dv := dv_bd (a := a) (b := b) d0
    have fa := fdiv_bd g0 (M := 100) (by decide) (show -100 ≤ a by omega) (by omega)
    have fb := fdiv_bd g0 (M := 100) (by decide) (show -100 ≤ b by omega) (by omega)
    have nlow : ¬ d < 1 := by omega
    have dlt : d < 1073741824 := by omega
    have dneg : d ≠ 0 ∧ d.natAbs < 1073741824 := ⟨by omega, by omega⟩
    -- the place, the counter and the size of the call
    refine ⟨_, rfl, _, rfl, _, rfl, _, _, _, rfl, fun ps H8 s8 _ hS => ⟨_, rfl, _, d, rfl, a, b, c, .inl ⟨ps, rfl, hS⟩, fun z => absurd z nlow, fun _ => ⟨dlt, fun q H9 s9 hq => ?_⟩⟩⟩
    have hP9 : Pen H9 p (t + 14) := hP7.same (s8.trans s9)
    refine ⟨_, rfl, p, t + 14, rfl, by omega, hP9, fun H10 i i0 i1 hP10 k10 => ?_⟩
    refine ⟨_, rfl, p, t + 14 + 8, rfl, by omega, hP10, fun H11 n n0 n1 hP11 k11 => ⟨_, _, _, rfl, ?_⟩⟩
    have hq11 := (hq.keep hP9 k10).keep hP10 k11
    have kB : Keep p H H11 := k7.trans ((Keep.of (s8.trans s9)).trans (k10.trans k11))
    clear hq hP9 hP10 hP7 k7 k10 k11 s8 s9 hS
    -- the least form
    refine ⟨_, rfl, _, rfl, _, rfl, _, rfl, sz4, fun tt htt => ⟨tt, a, b, c, d, rfl, SqT.of upd_same, d0, dlt, fun tl htl => ?_⟩⟩
    have s12 : Same H11 (upd (upd H11 tt (.tup [.int a, .int b, .int c, .int d])) tl (.tup [.int (a.fdiv (gg a b d)), .int (b.fdiv (gg a b d)), .int (c.fdiv (gg a b d)), .int (d.fdiv (gg a b d))])) := Same.new _ (Same.new _ (Same.refl _) htt) htl
    have hq12 := hq11.same s12
    have hP12 := hP11.same s12
    have kC := kB.trans (Keep.of s12)
    have hl12 : (upd (upd H11 tt (.tup [.int a, .int b, .int c, .int d])) tl (.tup [.int (a.fdiv (gg a b d)), .int (b.fdiv (gg a b d)), .int (c.fdiv (gg a b d)), .int (d.fdiv (gg a b d))])) tl = some (.tup [.int (a.fdiv (gg a b d)), .int (b.fdiv (gg a b d)), .int (c.fdiv (gg a b d)), .int (d.fdiv (gg a b d))]) := upd_same
    generalize upd (upd H11 tt (.tup [.int a, .int b, .int c, .int d])) tl (.tup [.int (a.fdiv (gg a b d)), .int (b.fdiv (gg a b d)), .int (c.fdiv (gg a b d)), .int (d.fdiv (gg a b d))]) = H12 at *
    clear htt htl hP11 hq11 kB s12
    obtain ⟨dx, q', hqa, hqb⟩ := id hq12
    obtain ⟨dq, hqc⟩ := id hqb
    refine ⟨_, rfl, q, _, dx, _, _, rfl, hqa, T.clP, T.nS, pf_s _ _, q', _, dq, _, _, rfl, hqc, T.clS, T.nI, sf_i _ _ _, ?_⟩
    refine ⟨_, rfl, q, _, dx, _, _, rfl, hqa, T.clP, T.nS, pf_s _ _, q', _, dq, _, _, rfl, hqc, T.clS, T.nN, sf_n _ _ _, ?_⟩
    refine ⟨_, rfl, q, _, dx, _, _, rfl, hqa, T.clP, T.nS, pf_s _ _, q', _, dq, _, _, rfl, hqc, T.clS, T.nO, sf_one _ _ _, ?_⟩
    refine ⟨_, rfl, q, _, dx, _, _, rfl, hqa, T.clP, T.nD, pf_d _ _, sz4, fun t3 ht3 => ⟨_, rfl, ?_⟩⟩
    refine ⟨_, _, dp4 upd_same, dp4 (at_upd _ hl12 ht3), tup4_shaped _ _ _ _, tup4_shaped _ _ _ _, _, rfl, if_no (eq_self (tup4_shaped _ _ _ _)) ?_⟩
    have s13 : Same H12 (upd H12 t3 (.tup [.int (a.fdiv (gg a b d)), .int (b.fdiv (gg a b d)), .int (c.fdiv (gg a b d)), .int (d.fdiv (gg a b d))])) := Same.new _ (Same.refl _) ht3
    have hq13 := hq12.same s13
    have hP13 := hP12.same s13
    have kD := kC.trans (Keep.of s13)
    have hl13 := at_upd (.tup [.int (a.fdiv (gg a b d)), .int (b.fdiv (gg a b d)), .int (c.fdiv (gg a b d)), .int (d.fdiv (gg a b d))]) hl12 ht3
    generalize upd H12 t3 (.tup [.int (a.fdiv (gg a b d)), .int (b.fdiv (gg a b d)), .int (c.fdiv (gg a b d)), .int (d.fdiv (gg a b d))]) = H13 at *
    clear hqa hqb hqc hq12 hP12 kC hl12 s13 ht3
    obtain ⟨dx, q', hqa, hqb⟩ := id hq13
    obtain ⟨dq, hqc⟩ := id hqb
    -- what the place tells
    refine ⟨_, rfl, q, rfl, _, rfl, _, rfl, .inr ⟨_, _, hqa⟩, q, _, _, _, _, i, n, rfl, hq13, sm_of (by omega) (by omega), sm_of (by omega) (by omega), by omega, by omega, ?_⟩
    refine ⟨_, rfl, _, rfl, _, rfl, _, _, rfl, rfl, .inl (sm_of (by omega) (by omega)), _, rfl, _, rfl, _, _, rfl, rfl, .inl (sm_of (by omega) (by omega)), _, _, rfl, rfl, _, rfl, _, _, rfl, rfl, _, rfl, _, _, rfl, rfl, dneg, ?_⟩
    refine ⟨rfl, _, rfl, ?_⟩
    refine if_no (not_dec (congrArg V.int (val_least d0))) ?_
    refine ⟨_, rfl, _, rfl, ?_⟩
    refine ⟨_, rfl, if_no rfl ?_⟩
    -- the same place by operators
    refine ⟨1, 0, 0, rfl, fun pc H14 s14 _ hc => ⟨0, 1, 0, rfl, fun pz H15 s15 _ hz => ⟨_, _, rfl, ?_⟩⟩⟩
    have hc15 := hc.same s15
    obtain ⟨dc, hci⟩ := id hc15
    obtain ⟨dz, hzi⟩ := id hz
    have w0 : Sm 0 := sm_of (by omega) (by omega)
    have w1 : Sm 1 := sm_of (by omega) (by omega)
    refine ⟨_, rfl, _, rfl, pc, dc, _, a, rfl, rfl, hci, pc, 1, 0, 0, a, rfl, hc15, .inr ⟨w1, w0, w0⟩, fun r1 H16 s16 _ h1 => ?_⟩
    refine ⟨_, rfl, _, rfl, pz, dz, _, b, rfl, rfl, s16 _ _ hzi, pz, 0, 1, 0, b, rfl, hz.same s16, .inr ⟨w0, w1, w0⟩, fun r2 H17 s17 _ h2 => ?_⟩
    have h1' := h1.same s17
    obtain ⟨e1, h1i⟩ := id h1'
    obtain ⟨e2, h2i⟩ := id h2
    refine ⟨r1, r2, e1, e2, _, _, rfl, rfl, h1i, h2i, r1, _, _, _, _, _, _, .ref r2, rfl, h1', .inl ⟨r2, rfl, h2⟩, fun r3 H18 s18 h3 => ?_⟩
    obtain ⟨e3, h3i⟩ := id h3
    refine ⟨_, rfl, r3, e3, _, c, rfl, rfl, h3i, r3, _, _, _, 0, 0, c, .int c, rfl, h3, .inr ⟨rfl, rfl, rfl⟩, fun r4 H19 s19 h4 => ?_⟩
    have h4' : StrAt K H19 r4 a b c := by
      have q1 : 1 * a + 0 * b + 0 = a := by omega
      have q2 : 0 * a + 1 * b + 0 = b := by omega
      have q3 : 0 * a + 0 * b + c = c := by omega
      rw [q1, q2, q3] at h4
      exact h4
    refine ⟨_, rfl, r4, a, b, c, d, rfl, rfl, h4', fun z => absurd z nlow, fun _ => ⟨dlt, fun qo H20 s20 ho => ?_⟩⟩
    have s21 : Same H13 H20 := s14.trans (s15.trans (s16.trans (s17.trans (s18.trans (s19.trans s20)))))
    have hq20 := hq13.same s21
    have hP20 := hP13.same s21
    have kE := kD.trans (Keep.of s21)
    have hl20 := s21 _ _ hl13
    clear hc hz hc15 hci hzi h1 h2 h1' h1i h2i h3 h3i h4 h4' s14 s15 s16 s17 s18 s19 s20 s21 hqa hqb hqc hq13 hP13 kD hl13
    obtain ⟨dx, q', hqa, hqb⟩ := id hq20
    obtain ⟨dq, hqc⟩ := id hqb
    obtain ⟨dxo, qo', hoa, hob⟩ := id ho
    refine ⟨_, rfl, _, rfl, qo, dxo, _, _, rfl, hoa, T.pty hq20, O.pp, qo, _, _, _, _, _, rfl, ho, .inl ⟨q, _, _, _, _, rfl, hq20, ?_⟩⟩
    rw [decide_eq_true ⟨rfl, rfl, rfl, rfl⟩]
    refine ⟨_, rfl, if_no rfl ?_⟩
    refine ⟨_, rfl, _, _, _, _, _, rfl, .own _, .base (T.pty ho), T.kPP, ?_⟩
    refine ⟨_, rfl, if_no rfl ?_⟩
    refine ⟨_, rfl, _, rfl, q, _, dx, _, _, rfl, hqa, T.clP, T.nS, pf_s _ _, q, dx, _, _, rfl, hqa, T.ty hqb, O.ps, q, _, _, _, _, _, rfl, hq20, .inr ⟨_, T.ty hqb, T.kSP, ?_⟩⟩
    refine ⟨_, rfl, if_no rfl ?_⟩
    refine ⟨_, rfl, q, _, dx, _, _, rfl, hqa, T.clP, T.nS, pf_s _ _, _, rfl, q', dq, _, _, rfl, hqc, T.pty hq20, O.sp, q', _, _, _, _, rfl, hqb, .inr ⟨_, T.pty hq20, T.kPS, ?_⟩⟩
    refine ⟨_, rfl, if_no rfl ?_⟩
    clear hoa hob ho
    -- one with another constant
    refine ⟨_, rfl, _, rfl, _, rfl, _, rfl, _, rfl, _, _, rfl, rfl, .inl ⟨by decide, by decide⟩, _, _, rfl, rfl, p, _, t + 30, rfl, by omega, by omega, by omega, hP20, fun H21 dl dl0 dl1 hP21 k21 => ?_⟩
    have hq21 := hq20.keep hP20 k21
    have hl21 := k21 _ _ (hP20.ne hl20 fun _ z => by cases z) hl20
    refine ⟨_, _, rfl, rfl, _, rfl, _, _, rfl, rfl, _, rfl, sz4, fun tn htn => ?_⟩
    have s22 : Same H21 (upd H21 tn (.tup [.int a, .int b, .int (c + dl - d), .int d])) := Same.new _ (Same.refl _) htn
    have hn22 : (upd H21 tn (.tup [.int a, .int b, .int (c + dl - d), .int d])) tn = some (.tup [.int a, .int b, .int (c + dl - d), .int d]) := upd_same
    have hq22 := hq21.same s22
    have hl22 := s22 _ _ hl21
    have hP22 := hP21.same s22
    have kF := kE.trans (k21.trans (Keep.of s22))
    clear hqa hqb hqc hq20 hP20 kE hl20 hq21 hl21 hP21 k21 s22 htn
    have j0 : atI ([V.int a, V.int b, V.int (c + dl - d), V.int d] : List V) 0 = some (.int a) := atI_nat (xs := ([V.int a, V.int b, V.int (c + dl - d), V.int d] : List V)) (j := 0) rfl
    have j1 : atI ([V.int a, V.int b, V.int (c + dl - d), V.int d] : List V) 1 = some (.int b) := atI_nat (xs := ([V.int a, V.int b, V.int (c + dl - d), V.int d] : List V)) (j := 1) rfl
    have j2 : atI ([V.int a, V.int b, V.int (c + dl - d), V.int d] : List V) 2 = some (.int (c + dl - d)) := atI_nat (xs := ([V.int a, V.int b, V.int (c + dl - d), V.int d] : List V)) (j := 2) rfl
    refine ⟨_, rfl, tn, _, _, _, rfl, rfl, SqT.of hn22, j0, _, rfl, tn, _, _, _, rfl, rfl, SqT.of hn22, j1, _, rfl, tn, _, _, _, rfl, rfl, SqT.of hn22, j2, _, _, _, rfl, fun pm H23 s23 _ hm => ?_⟩
    refine ⟨_, rfl, _, d, rfl, a, b, (c + dl - d), .inl ⟨pm, rfl, hm⟩, fun z => absurd z nlow, fun _ => ⟨dlt, fun qn H24 s24 hqn => ?_⟩⟩
    have s25 := s23.trans s24
    have hq24 := hq22.same s25
    have hn24 := s25 _ _ hn22
    have hl24 := s25 _ _ hl22
    obtain ⟨dxn, qn', hna, hnb⟩ := id hqn
    refine ⟨_, rfl, qn, dxn, _, _, rfl, hna, T.pty hq24, O.pp, qn, _, _, _, _, _, rfl, hqn, .inl ⟨q, _, _, _, _, rfl, hq24, ?_⟩⟩
    refine ⟨_, rfl, tn, a, b, (c + dl - d), d, rfl, SqT.of hn24, d0, dlt, fun td htd => ⟨_, rfl, _, _, dp4 upd_same, dp4 (at_upd _ hl24 htd), tup4_shaped _ _ _ _, tup4_shaped _ _ _ _, ?_⟩⟩
    have s26 : Same H24 (upd H24 td (.tup [.int (a.fdiv (gg a b d)), .int (b.fdiv (gg a b d)), .int ((c + dl - d).fdiv (gg a b d)), .int (d.fdiv (gg a b d))])) := Same.new _ (Same.refl _) htd
    have hq26 := hq24.same s26
    have hP26 := hP22.same (s25.trans s26)
    have kG := kF.trans (Keep.of (s25.trans s26))
    rw [eqv4]
    generalize upd H24 td (.tup [.int (a.fdiv (gg a b d)), .int (b.fdiv (gg a b d)), .int ((c + dl - d).fdiv (gg a b d)), .int (d.fdiv (gg a b d))]) = H26 at *
    refine ⟨rfl, _, rfl, if_no (not_dec rfl) ?_⟩
    clear hm s23 s24 s25 s26 hq24 hn24 hl24 hna hnb hqn hq22 hP22 kF hl22 hn22 htd
    -- a whole number over a divisor
    refine ⟨_, rfl, _, rfl, _, d, rfl, 0, 0, c, .inr ⟨rfl, rfl, rfl⟩, fun z => absurd z nlow, fun _ => ⟨dlt, fun qw H27 s27 hw => ?_⟩⟩
    have hw2 : PlcAt K H27 qw 0 0 (c.fdiv d) 1 := by
      rw [gg00 d d0, Int.zero_fdiv, Int.fdiv_self dneg.1] at hw
      exact hw
    have hq27 := hq26.same s27
    have hP27 := hP26.same s27
    have kH := kG.trans (Keep.of s27)
    obtain ⟨dxw, qw', hwa, hwb⟩ := id hw2
    obtain ⟨dqw, hwc⟩ := id hwb
    refine ⟨_, rfl, qw, _, dxw, _, _, rfl, hwa, T.clP, T.nS, pf_s _ _, qw', _, dqw, _, _, rfl, hwc, T.clS, T.nI, sf_i _ _ _, ?_⟩
    refine ⟨_, rfl, qw, _, dxw, _, _, rfl, hwa, T.clP, T.nS, pf_s _ _, qw', _, dqw, _, _, rfl, hwc, T.clS, T.nN, sf_n _ _ _, ?_⟩
    refine ⟨_, rfl, qw, _, dxw, _, _, rfl, hwa, T.clP, T.nS, pf_s _ _, qw', _, dqw, _, _, rfl, hwc, T.clS, T.nO, sf_one _ _ _, ?_⟩
    refine ⟨_, rfl, qw, _, dxw, _, _, rfl, hwa, T.clP, T.nD, pf_d _ _, sz4, fun t4 ht4 => ?_⟩
    refine ⟨_, rfl, _, rfl, _, _, rfl, rfl, dneg, sz4, fun t5 ht5 => ?_⟩
    refine ⟨_, _, dp4 (at_upd _ upd_same ht5), dp4 upd_same, tup4_shaped _ _ _ _, tup4_shaped _ _ _ _, _, rfl, if_no (eq_self (tup4_shaped _ _ _ _)) ?_⟩
    have s28 := Same.new (.tup [.int 0, .int 0, .int (c.fdiv d), .int 1]) (Same.new (.tup [.int 0, .int 0, .int (c.fdiv d), .int 1]) (Same.refl H27) ht4) ht5
    have hq28 := hq27.same s28
    have hP28 := hP27.same s28
    have kI := kH.trans (Keep.of s28)
    have hw28 := hw2.same s28
    obtain ⟨dxw, qw', hwa, hwb⟩ := id hw28
    refine ⟨_, rfl, _, rfl, _, rfl, _, _, rfl, rfl, dneg, qw, dxw, _, _, rfl, hwa, .int _, O.pi, qw, _, _, _, _, _, rfl, hw28, .inr ⟨_, .int _, T.kiP, ?_⟩⟩
    refine ⟨_, rfl, if_no rfl ?_⟩
    refine ⟨_, rfl, qw, dxw, _, _, rfl, hwa, .str _, O.pt, qw, _, _, _, _, _, rfl, hw28, .inr ⟨_, .str _, O.kt, ?_⟩⟩
    refine ⟨_, rfl, if_no rfl ?_⟩
    -- another counter
    refine ⟨_, rfl, _, rfl, _, rfl, _, rfl, _, rfl, sz4, fun tz htz => ⟨_, rfl, p, tz, q, a, b, c, d, t + 31, rfl, upd_same, hq28.same (Same.new _ (Same.refl _) htz), by omega, by omega, by omega, by omega, d0, by omega, by omega, hP28.same (Same.new _ (Same.refl _) htz), fun H30 hP30 k30 => ?_⟩⟩
    exact k _ (hP30.mono (by omega)) (kI.trans ((Keep.of (Same.new _ (Same.refl _) htz)).trans k30))
end
end K20

set_option maxHeartbeats 4000000
namespace K20
open PySem PySem.Spec PyProof.Rows L2 Z
def spLaw (K : PySem.W.Frag) : Sp := fun vs H Q _ => ∃ (a : Addr) (ns : List Int), vs = [.ref a] ∧ SqL K H a (ns.map V.int) ∧ ns.length ≤ 63 ∧ ∀ H', Q (.bl true) H'
theorem div_shaped (n : Int) : SeqAt.shaped (.tuple [.str "divisor", .int n]) = true := by
  have e : PyData.strOk ("divisor" : Str) = true := by decide +kernel
  simp [SeqAt.shaped, PyData.canLay0, PyData.canLayAll0, PyData.depth, PyData.depthAll, e]
theorem dp2 {K : PySem.W.Frag} {H : Hp} {t : Addr} {n : Int} (h : H t = some (.tup [.str "divisor", .int n])) : Dp K H (.ref t) (.tuple [.str "divisor", .int n]) := .tup (SqT.of h) (.cons (.str _) (.cons (.int _) .nil))
section
variable {P : Program} {w : World} {K : PySem.W.Frag} {mg : Str → Option Value} {base : Heap}
theorem sc_law : FnScope ["_law_script", "_law_pen_here", "_law_turn", "_law_bad"] ["_law_script"] (defScope s_law) := ⟨rfl, rfl, rfl, by decide +kernel, rfl, by decide +kernel, by decide +kernel⟩
theorem ok_law {f : Addr} {fd : FuncData} (F : FnP K "law" s_law f fd) (T : LwTx K mg) (dPen : Dn P w K mg base 1 "_law_pen" ["_law_script"] (spPen K)) (dDraw : Dn P w K mg base 1 "_law_draw" ["_law_pen_here", "_law_many"] spDraw)
    (dFar : Dn P w K mg base 3 "_law_far" ["_law_pen_here"] spFar) (dPlace : Dn P w K mg base 8 "_law_place_right" ["_law_pen_here"] spPlaceR) (dRefused : Dn P w K mg base 7 "_law_refused_divisor" ["_law_number", "_law_way"] (spRefused K)) : FnOk P w K mg base CX0 9 f fd ["_law_script"] (spLaw K) := by
  refine F.ok sc_law (fun vs H Q E h => ?_) (fun cdv A outer s H vs Q E hr h => ?_)
  · obtain ⟨a, ns, rfl, _⟩ := h
    rfl
  · obtain ⟨a, ns, rfl, hS, hl, k⟩ := h
    refine ⟨_, PSs.nox (pss_cons (ps_set (i := 1) sc_law.nd rfl (Or.inl rfl) (pe_dn dPen hr (pa_cons (pv 0) pa_nil)))
      (pss_cons (ps_for PassesOwn.never rfl (pi_range1 (by rfl) T.range (pa_cons (pe_op op_add pe_int (pe_dn dDraw hr (pa_cons (pv 1) (pa_cons pe_int pa_nil)))) pa_nil)) (pg_name (i := 2) sc_law.nd rfl (.inl rfl)) (pss_one (ps_if (pt_not (pt_val (pe_dn dPlace hr (pa_cons (pv 1) pa_nil)))) (pss_one (ps_ret pe_bl)) pss_nil)))
      (pss_cons (ps_set (i := 3) sc_law.nd rfl (Or.inl rfl) (pe_un un_neg (pe_dn dFar hr (pa_cons (pv 1) pa_nil))))
      (pss_one (ps_ret (pe_and (pe_cmpR (op_eqD hr.units) (pe_dn dRefused hr (pa_cons (pv 3) (pa_cons pe_int pa_nil))) (pe_tup (pa_cons pe_str (pa_cons (pv 3) pa_nil))) (nomark _)) (pe_one (pe_cmpR (op_eqD hr.units) (pe_dn dRefused hr (pa_cons (pv 3) (pa_cons pe_int pa_nil))) (pe_tup (pa_cons pe_str (pa_cons (pv 3) pa_nil))) (nomark _))))))))), ?_⟩
    refine ⟨_, rfl, a, ns, rfl, hS, hl, fun H1 p s1 hp hP => ?_⟩
    refine ⟨_, rfl, p, 4, 0, rfl, by decide, by decide, by omega, hP, fun H2 d d0 d1 hP2 k2 => ⟨_, _, rfl, rfl, ?_⟩⟩
    obtain ⟨j, rfl⟩ : ∃ j : Nat, d = (j : Int) := ⟨d.toNat, by omega⟩
    refine ⟨1 + (j : Int), rfl, by omega, by omega, ?_⟩
    rw [show (1 + (j : Int)).toNat = j + 1 by omega]
    refine for_range (lo := 0) (n := j + 1) (fun i σ H' => ∃ v2 v3 : Option V, σ = [some (.ref a), some (.ref p), v2, v3] ∧ Pen H' p (1 + 100 * i)) ⟨_, _, rfl, hP2⟩ ?_ ?_
    · rintro i σ H3 hi ⟨v2, v3, rfl, hP3⟩
      refine ⟨_, rfl, p, 1 + 100 * i, rfl, by omega, hP3, fun H4 hP4 k4 => ?_⟩
      refine ⟨_, rfl, if_no rfl ?_⟩
      exact ⟨_, _, rfl, hP4.mono (by omega)⟩
    · rintro σ H3 ⟨v2, v3, rfl, hP3⟩
      refine ⟨_, rfl, p, 1 + 100 * (j + 1), rfl, by omega, hP3, fun H4 b b0 b1 hP4 k4 => ?_⟩
      refine ⟨_, rfl, ?_⟩
      refine ⟨_, rfl, -b, 0, rfl, by omega, fun t5 H5 s5 h5 => ⟨_, rfl, sz2, fun t6 h6 => ?_⟩⟩
      refine ⟨_, _, dp2 (at_upd _ h5 h6), dp2 upd_same, div_shaped _, div_shaped _, ?_⟩
      rw [SeqAt.eqv_refl _ (SeqAt.canLay_of_shaped (div_shaped _))]
      refine ⟨_, rfl, iteT ?_⟩
      refine ⟨_, rfl, -b, 1, rfl, by omega, fun t7 H7 s7 h7 => ⟨_, rfl, sz2, fun t8 h8 => ?_⟩⟩
      refine ⟨_, _, dp2 (at_upd _ h7 h8), dp2 upd_same, div_shaped _, div_shaped _, ?_⟩
      rw [SeqAt.eqv_refl _ (SeqAt.canLay_of_shaped (div_shaped _))]
      exact k _
end
end K20

set_option maxHeartbeats 0
namespace K20
open PySem PySem.Spec PyProof.Rows L2 Z
theorem run (w : World) : HandSHeadRun.RunEqI R (PySem.W.view R.prog [0, 26]) hk ob 60000 names w := by
  unfold HandSHeadRun.RunEqI
  kernel_rfl
end K20

set_option maxHeartbeats 0
namespace K20
open PySem PySem.Spec PyProof.Rows L2 Z
theorem inx_of {K : PySem.W.Frag} {C : Addr} (h : insB K C = true) : Inx K C := by
  obtain ⟨h1, h⟩ := He.ba h
  obtain ⟨h2, h⟩ := He.ba h
  obtain ⟨h3, h4⟩ := He.ba h
  exact ⟨He.eqO_ok h1, He.eqO_ok h2, of_decide_eq_true h3, of_decide_eq_true h4⟩
theorem fnIn_of {K : PySem.W.Frag} {x q : Str} {a b e d l f fd} (F : FunD K x q a b e d l f fd) : PySem.W.fnIn K f = true := by
  obtain ⟨oc, od, dV, kV, doc, pm, an, cdv, ct, osl, rfl, lk, _⟩ := F.ex
  unfold PySem.W.fnIn
  rw [lk]
theorem facts {P : Program} {w : World} {K : PySem.W.Frag} {h : Heap} {mg : Str → Option Value} {f : Addr} (X : K.In h) (G : h.Ns mainGlobals mg) (hfa : mg ("law" : Str) = some (.ref f)) (c : SaysX fa fn K) :
    ∃ fd : FuncData, (∀ (s : Shared) (v : Value), BindsTo s fd ⟨[v], []⟩ [("_law_script", v)]) ∧ ∀ base : Heap, K.In base → base.Ns mainGlobals mg → FnOk P w K mg base CX0 9 f fd ["_law_script"] (spLaw K) := by
  have gl : ∀ x ∈ glos, mg x = some (.ref (He.ga K x)) := fun x hx => He.glo_ok X G (List.all_eq_true.mp (c.fact 0) x hx)
  have fr : ∀ x ∈ frees, mg x = none := fun x hx => He.free_ok X G (List.all_eq_true.mp (c.fact 1) x hx)
  have ow : ∀ x ∈ owns, Cls K (He.ga K x) ∧ Mk K (He.ga K x) (He.ma K (He.ga K x) "__init__") ∧ Inx K (He.ga K x) := fun x hx => by
    obtain ⟨h1, z⟩ := He.ba (List.all_eq_true.mp (c.fact 2) x hx)
    obtain ⟨h2, h3⟩ := He.ba z
    exact ⟨He.cls_ok h1, He.mkr_ok h2, inx_of h3⟩
  have na : ∀ q ∈ atts, NoAttr K (He.ga K q.1) q.2 := fun q hq => He.noat_ok (List.all_eq_true.mp (c.fact 3) q hq)
  have me : ∀ q ∈ mets, Meth K (He.ga K q.1) q.2 (He.ma K (He.ga K q.1) q.2) := fun q hq => He.meth_ok (List.all_eq_true.mp (c.fact 4) q hq)
  have op : ∀ q ∈ oprs, OpI K (He.ga K q.1) q.2 := fun q hq => opiB_ok (List.all_eq_true.mp (c.fact 5) q hq)
  have kt := c.fact 7
  unfold kits at kt
  simp only [Bool.and_eq_true, decide_eq_true_eq] at kt
  obtain ⟨⟨⟨⟨⟨⟨⟨⟨⟨⟨⟨_, kSi⟩, kSS⟩, kSP⟩, kPP⟩, kPS⟩, kPi⟩, kiP⟩, kiS⟩, ktP⟩, kii0⟩, kib0⟩ := kt
  have gcd : mg "gcd" = some (.builtin "math.gcd") := PySem.W.mg_of X G (He.eqO_ok (c.fact 8))
  have nf := c.fact 9
  simp only [List.all_cons, List.all_nil, Bool.and_eq_true] at nf
  obtain ⟨nSi, nSt, nPi, nPt, nSP, nPS, nPP, nSS, _⟩ := nf
  have ex : PySem.W.exmOne K (.ref (CB K)) (.ref (CB K)) = some true := of_decide_eq_true (c.fact 10)
  have EB : EC K mg "BadNumber" ["what", "number"] := by
    obtain ⟨h1, z⟩ := He.ba (List.all_eq_true.mp (c.fact 6) (("BadNumber", ["what", "number"]) : Str × List Str) (by decide +kernel))
    obtain ⟨h2, z⟩ := He.ba z
    obtain ⟨h3, z⟩ := He.ba z
    obtain ⟨h4, h5⟩ := He.ba z
    exact { gC := gl "BadNumber" (by decide +kernel), ox := oex_of h2 (exkB_ok h1), ex := exkB_ok h1, iC := He.eqO_ok h3, tI := of_decide_eq_true h4, na := fun x hx => He.eqO_ok (List.all_eq_true.mp h5 x hx) }
  have T : LwTx K mg := {
    gS := gl "Straight" (by decide +kernel), clS := (ow "Straight" (by decide +kernel)).1, mkS := (ow "Straight" (by decide +kernel)).2.1, ixS := (ow "Straight" (by decide +kernel)).2.2
    nI := na ("Straight", "i") (by decide +kernel), nN := na ("Straight", "n") (by decide +kernel), nO := na ("Straight", "one") (by decide +kernel)
    kSi := kSi, kSS := kSS, kiS := kiS
    isi := fr _ (by decide +kernel), int := fr _ (by decide +kernel), bool := fr _ (by decide +kernel)
    gP := gl "Place" (by decide +kernel), clP := (ow "Place" (by decide +kernel)).1, mkP := (ow "Place" (by decide +kernel)).2.1, ixP := (ow "Place" (by decide +kernel)).2.2
    nS := na ("Place", "straight") (by decide +kernel), nD := na ("Place", "divisor") (by decide +kernel)
    gcd := gcd, kPP := kPP, kPS := kPS, kSP := kSP, kiP := kiP
    len := fr _ (by decide +kernel), list := fr _ (by decide +kernel), range := fr _ (by decide +kernel), str := fr _ (by decide +kernel), abs := fr _ (by decide +kernel), max := fr _ (by decide +kernel), min := fr _ (by decide +kernel) }
  obtain ⟨fd_is_integer, F_is_integer⟩ := c.def_ 0 (d := d_is_integer) rfl
  obtain ⟨fd_is_straight, F_is_straight⟩ := c.def_ 1 (d := d_is_straight) rfl
  obtain ⟨fd_straight_like, F_straight_like⟩ := c.def_ 2 (d := d_straight_like) rfl
  obtain ⟨fd_value_of, F_value_of⟩ := c.def_ 3 (d := d_value_of) rfl
  obtain ⟨fd_added, F_added⟩ := c.def_ 4 (d := d_added) rfl
  obtain ⟨fd_replaced_straight, F_replaced_straight⟩ := c.def_ 5 (d := d_replaced_straight) rfl
  obtain ⟨fd__law_pen, F__law_pen⟩ := c.def_ 6 (d := d_law_pen) rfl
  obtain ⟨fd__law_draw, F__law_draw⟩ := c.def_ 7 (d := d_law_draw) rfl
  obtain ⟨fd__law_big, F__law_big⟩ := c.def_ 8 (d := d_law_big) rfl
  obtain ⟨fd__law_between, F__law_between⟩ := c.def_ 9 (d := d_law_between) rfl
  obtain ⟨fd__law_far, F__law_far⟩ := c.def_ 10 (d := d_law_far) rfl
  obtain ⟨fd__law_integer, F__law_integer⟩ := c.def_ 11 (d := d_law_integer) rfl
  obtain ⟨fd__law_divisor, F__law_divisor⟩ := c.def_ 12 (d := d_law_divisor) rfl
  obtain ⟨fd__law_place_due, F__law_place_due⟩ := c.def_ 13 (d := d_law_place_due) rfl
  obtain ⟨fd__law_refused_divisor, F__law_refused_divisor⟩ := c.def_ 14 (d := d_law_refused_divisor) rfl
  obtain ⟨fd__law_moved_right, F__law_moved_right⟩ := c.def_ 15 (d := d_law_moved_right) rfl
  obtain ⟨fd__law_place_right, F__law_place_right⟩ := c.def_ 16 (d := d_law_place_right) rfl
  obtain ⟨fd_law, F_law⟩ := c.def_ 17 (d := d_law) rfl
  obtain ⟨fdBadNumber__init__, FBadNumber__init__⟩ := c.def_ 18 (d := dBadNumber__init__) rfl
  obtain ⟨fdStraight__init__, FStraight__init__⟩ := c.def_ 19 (d := dStraight__init__) rfl
  obtain ⟨fdStraight__eq__, FStraight__eq__⟩ := c.def_ 21 (d := dStraight__eq__) rfl
  obtain ⟨fdStraight__add__, FStraight__add__⟩ := c.def_ 22 (d := dStraight__add__) rfl
  obtain ⟨fdStraight__mul__, FStraight__mul__⟩ := c.def_ 27 (d := dStraight__mul__) rfl
  obtain ⟨fdStraight__rmul__, FStraight__rmul__⟩ := c.def_ 28 (d := dStraight__rmul__) rfl
  obtain ⟨fdStraight__floordiv__, FStraight__floordiv__⟩ := c.def_ 29 (d := dStraight__floordiv__) rfl
  obtain ⟨fdPlace__init__, FPlace__init__⟩ := c.def_ 31 (d := dPlace__init__) rfl
  obtain ⟨fdPlace__call__, FPlace__call__⟩ := c.def_ 32 (d := dPlace__call__) rfl
  obtain ⟨fdPlace__eq__, FPlace__eq__⟩ := c.def_ 33 (d := dPlace__eq__) rfl
  obtain ⟨fdPlacereplaced, FPlacereplaced⟩ := c.def_ 34 (d := dPlacereplaced) rfl
  have e := hfa.symm.trans (gl "law" (by decide +kernel))
  cases e
  refine ⟨fd_law, fun s v => FunD.bindsA (ps := ["_law_script"]) F_law (fun _ _ _ _ _ _ us hl => match us, hl with | [_], _ => rfl) s [v] rfl, fun base _ _ => ?_⟩
  have D_is_integer : Dn P w K mg base 1 "is_integer" ["value"] (spIsInt K) := ⟨_, _, ok_isInt F_is_integer T.toStTx, gl _ (by decide +kernel), F_is_integer.kp, FunD.bindsN (ps := ["value"]) F_is_integer fun _ _ _ _ _ _ us hl => match us, hl with | [_], _ => rfl⟩
  have D_is_straight : Dn P w K mg base 2 "is_straight" ["value"] (spIsStr K) := ⟨_, _, ok_isStr F_is_straight T.toStTx D_is_integer, gl _ (by decide +kernel), F_is_straight.kp, FunD.bindsN (ps := ["value"]) F_is_straight fun _ _ _ _ _ _ us hl => match us, hl with | [_], _ => rfl⟩
  have M : MkS P w K mg base := mk_S T.toStTx FStraight__init__
  have D_straight_like : Dn P w K mg base 3 "straight_like" ["value"] (spLike K) := ⟨_, _, ok_like F_straight_like T.toStTx M, gl _ (by decide +kernel), F_straight_like.kp, FunD.bindsN (ps := ["value"]) F_straight_like fun _ _ _ _ _ _ us hl => match us, hl with | [_], _ => rfl⟩
  have D_value_of : Dn P w K mg base 1 "value_of" ["straight", "i", "n"] (spVal K) := ⟨_, _, ok_val F_value_of T.toStTx, gl _ (by decide +kernel), F_value_of.kp, FunD.bindsN (ps := ["straight", "i", "n"]) F_value_of fun _ _ _ _ _ _ us hl => match us, hl with | [_, _, _], _ => rfl⟩
  have D_added : Dn P w K mg base 3 "added" ["one", "other", "sign"] (spAdded K) := ⟨_, _, ok_added F_added T.toStTx M, gl _ (by decide +kernel), F_added.kp, FunD.bindsN (ps := ["one", "other", "sign"]) F_added fun _ _ _ _ _ _ us hl => match us, hl with | [_, _, _], _ => rfl⟩
  have D_replaced_straight : Dn P w K mg base 3 "replaced_straight" ["straight", "factor", "shift"] (spRepl K) := ⟨_, _, ok_repl F_replaced_straight T.toStTx M, gl _ (by decide +kernel), F_replaced_straight.kp, FunD.bindsN (ps := ["straight", "factor", "shift"]) F_replaced_straight fun _ _ _ _ _ _ us hl => match us, hl with | [_, _, _], _ => rfl⟩
  have OSE := om_SEq (P := P) (w := w) (base := base) FStraight__eq__ T.toStTx (me ("Straight", "__eq__") (by decide +kernel))
  have OSA := om_SAdd (P := P) (w := w) (base := base) FStraight__add__ T.toStTx (me ("Straight", "__add__") (by decide +kernel)) D_is_straight D_straight_like D_added
  have OSM := om_SMul (P := P) (w := w) (base := base) FStraight__mul__ T.toStTx M (me ("Straight", "__mul__") (by decide +kernel)) D_is_integer
  have OSR := om_SRmul (P := P) (w := w) (base := base) FStraight__rmul__ T.toStTx M (me ("Straight", "__rmul__") (by decide +kernel)) D_is_integer
  have MB : Mx P w K mg base "BadNumber" ["self", "what", "number"] ["what", "number"] := mxBadNumber EB FBadNumber__init__
  have MP : MkP P w K mg base := mk_P T.toPlTx M MB D_straight_like FPlace__init__
  have OF := om_Fdiv (P := P) (w := w) (base := base) FStraight__floordiv__ T.toPlTx MP (me ("Straight", "__floordiv__") (by decide +kernel)) D_is_integer
  have OPE := om_PEq (P := P) (w := w) (base := base) FPlace__eq__ T.toPlTx (me ("Place", "__eq__") (by decide +kernel)) OSE nSS
  have PMm : PM P w K mg base := {
    call := ⟨_, ok_PCall FPlace__call__ T.toPlTx D_value_of, FPlace__call__.bindsN fun _ _ _ _ _ _ us hl => match us, hl with | [_, _, _], _ => rfl, ⟨(me ("Place", "__call__") (by decide +kernel)).at_, (me ("Place", "__call__") (by decide +kernel)).fn, fnIn_of FPlace__call__⟩⟩
    repl := ⟨_, ok_PRepl FPlacereplaced T.toPlTx MP D_replaced_straight, FPlacereplaced.bindsN fun _ _ _ _ _ _ us hl => match us, hl with | [_, _, _], _ => rfl, (me ("Place", "replaced") (by decide +kernel))⟩ }
  have O : Ops P w K mg base := { sa := OSA, sm := OSM, sr := OSR, fd := OF, ia := op ("Straight", "add") (by decide +kernel), im := op ("Straight", "mul") (by decide +kernel), if_ := op ("Straight", "floordiv") (by decide +kernel), es := OSE, ep := OPE, pp := nPP, ps := nPS, sp := nSP, pi := nPi, pt := nPt, kt := ktP }
  have D__law_pen : Dn P w K mg base 1 "_law_pen" ["_law_script"] (spPen K) := ⟨_, _, ok_pen F__law_pen T.bt, gl _ (by decide +kernel), F__law_pen.kp, FunD.bindsN (ps := ["_law_script"]) F__law_pen fun _ _ _ _ _ _ us hl => match us, hl with | [_], _ => rfl⟩
  have D__law_draw : Dn P w K mg base 1 "_law_draw" ["_law_pen_here", "_law_many"] spDraw := ⟨_, _, ok_draw F__law_draw T.bt, gl _ (by decide +kernel), F__law_draw.kp, FunD.bindsN (ps := ["_law_pen_here", "_law_many"]) F__law_draw fun _ _ _ _ _ _ us hl => match us, hl with | [_, _], _ => rfl⟩
  have D__law_big : Dn P w K mg base 2 "_law_big" ["_law_pen_here", "_law_many"] spBig := ⟨_, _, ok_big F__law_big T D__law_draw, gl _ (by decide +kernel), F__law_big.kp, FunD.bindsN (ps := ["_law_pen_here", "_law_many"]) F__law_big fun _ _ _ _ _ _ us hl => match us, hl with | [_, _], _ => rfl⟩
  have D__law_between : Dn P w K mg base 2 "_law_between" ["_law_pen_here", "_law_least", "_law_most"] spBetween := ⟨_, _, ok_between F__law_between T D__law_draw, gl _ (by decide +kernel), F__law_between.kp, FunD.bindsN (ps := ["_law_pen_here", "_law_least", "_law_most"]) F__law_between fun _ _ _ _ _ _ us hl => match us, hl with | [_, _, _], _ => rfl⟩
  have D__law_far : Dn P w K mg base 3 "_law_far" ["_law_pen_here"] spFar := ⟨_, _, ok_far F__law_far T D__law_draw D__law_big, gl _ (by decide +kernel), F__law_far.kp, FunD.bindsN (ps := ["_law_pen_here"]) F__law_far fun _ _ _ _ _ _ us hl => match us, hl with | [_], _ => rfl⟩
  have D__law_integer : Dn P w K mg base 1 "_law_integer" ["_law_value"] spInteger := ⟨_, _, ok_integer F__law_integer T, gl _ (by decide +kernel), F__law_integer.kp, FunD.bindsN (ps := ["_law_value"]) F__law_integer fun _ _ _ _ _ _ us hl => match us, hl with | [_], _ => rfl⟩
  have D__law_divisor : Dn P w K mg base 1 "_law_divisor" ["_law_a", "_law_b"] spDivisor := ⟨_, _, ok_divisor F__law_divisor T, gl _ (by decide +kernel), F__law_divisor.kp, FunD.bindsN (ps := ["_law_a", "_law_b"]) F__law_divisor fun _ _ _ _ _ _ us hl => match us, hl with | [_, _], _ => rfl⟩
  have D__law_place_due : Dn P w K mg base 2 "_law_place_due" ["_law_row"] (spDue K) := ⟨_, _, ok_due F__law_place_due T D__law_divisor, gl _ (by decide +kernel), F__law_place_due.kp, FunD.bindsN (ps := ["_law_row"]) F__law_place_due fun _ _ _ _ _ _ us hl => match us, hl with | [_], _ => rfl⟩
  have D__law_refused_divisor : Dn P w K mg base 7 "_law_refused_divisor" ["_law_number", "_law_way"] (spRefused K) := ⟨_, _, ok_refused F__law_refused_divisor T M MP EB ex O.fd O.if_, gl _ (by decide +kernel), F__law_refused_divisor.kp, FunD.bindsN (ps := ["_law_number", "_law_way"]) F__law_refused_divisor fun _ _ _ _ _ _ us hl => match us, hl with | [_, _], _ => rfl⟩
  have D__law_moved_right : Dn P w K mg base 7 "_law_moved_right" ["_law_pen_here", "_law_row", "_law_place"] (spMoved K) := ⟨_, _, ok_moved F__law_moved_right T M MP PMm O.ep O.pp D__law_draw D__law_between D__law_far, gl _ (by decide +kernel), F__law_moved_right.kp, FunD.bindsN (ps := ["_law_pen_here", "_law_row", "_law_place"]) F__law_moved_right fun _ _ _ _ _ _ us hl => match us, hl with | [_, _, _], _ => rfl⟩
  have D__law_place_right : Dn P w K mg base 8 "_law_place_right" ["_law_pen_here"] spPlaceR := ⟨_, _, ok_placeR F__law_place_right T M MP PMm O D__law_draw D__law_between D__law_far D__law_big D__law_place_due D__law_integer D__law_moved_right, gl _ (by decide +kernel), F__law_place_right.kp, FunD.bindsN (ps := ["_law_pen_here"]) F__law_place_right fun _ _ _ _ _ _ us hl => match us, hl with | [_], _ => rfl⟩
  exact ok_law F_law T D__law_pen D__law_draw D__law_far D__law_place_right D__law_refused_divisor
end K20
open PySem PySem.W PySem.Calls PyProof.Rows
theorem PySem.Challenge.cw_loopsize_k20_places_in_least_form_holds : PySem.Challenge.rw_loopsize_k20_places_in_least_form.Holds := by
  w_on; o_law
  refine HandSHeadRun.head_imp (r := OpenLaw.row PySem.Challenge.rw_loopsize_k20_places_in_least_form) (q := view (OpenLaw.row PySem.Challenge.rw_loopsize_k20_places_in_least_form).prog [0, 26]) (H := K20.hk) (ob := K20.ob) (M := 60000) (loose := K20.names) (d := HandSHeadRun.topDef (OpenLaw.row PySem.Challenge.rw_loopsize_k20_places_in_least_form).prog 26) (kwd := []) K20.ob_eq
    K20.run (by kernel_rfl) (by kernel_rfl) (by kernel_rfl) (by rfl) (by first | assumption | decide +kernel) (by decide +kernel) ⟨rfl, rfl, rfl, rfl, rfl, by decide +kernel⟩ ?hw ?hc
  case hw => w_witness2
  case hc =>
    refine L2.walk_ofE (l := PySem.Challenge.rw_loopsize_k20_places_in_least_form) (n := 63) (k := 9) (x := "_law_script") (CX := L2.CX0) rfl (by decide) (by kernel_rfl) ⟨rfl, by decide, by decide⟩ ?F (fun _ _ _ _ z => z)
    intro w mg fa h Y G hmg0
    obtain ⟨K, KX, c⟩ := Y
    have hmg : mg ("law" : PySem.Str) = some (.ref fa) := by
      have e : (HandSHeadRun.topDef (OpenLaw.row PySem.Challenge.rw_loopsize_k20_places_in_least_form).prog 26).name = ("law" : PySem.Str) := by kernel_rfl
      rw [← e]
      exact hmg0
    obtain ⟨fd, hb, hF⟩ := K20.facts (P := (PySem.Challenge.rw_loopsize_k20_places_in_least_form).prog) (w := w) KX G hmg c
    exact ⟨K, fd, K20.spLaw K, KX, hb, fun H a ns hl _ hS => ⟨a, ns, rfl, hS, hl, fun _ => rfl⟩, hF⟩

