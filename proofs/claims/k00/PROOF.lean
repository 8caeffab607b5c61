import PyProof.Rows.All
import Wide.All
import OpenK.AllK
import Wide.FinOn
import KE.KExcIs
import HandS.ForMost
import HandS.Exc
import HandS.ExcInit
import HandS.ExcOwn
import HandS.ExcValue
import HandS.ExcField
import HandS.ExcIs
import HandS.IsInst
import HandS.WordsExc
import HandS.Defaults
import HandS.HeadHook1
import HandS.HeadHook2
import HandS.Head0
import HandS.Head1
import HandS.Head2
import HandS.HeadEnd
import PySem.Challenge.RW_loopsize_k00_errors_made_from_their_fiel
set_option Elab.async false
set_option linter.all false
set_option maxRecDepth 100000
set_option maxHeartbeats 4000000
namespace Z
open PySem PySem.Spec PyProof.Rows L2
section
variable {X : Cx} {e : Expr} {es : List Expr} {te : TE} {ta : TA} {p pos : Pos}
/-- C(e, ..), an own exception class with its own __init__, as a value -/
def tMkE (C : Addr) (sp : Sp) (ta : TA) : TE := fun σ H Q => ta σ H fun vs H1 => vs.length ≤ 1000 ∧ ∀ a, H1 a = none →
  sp (.ref a :: vs) (upd H1 a (exo a C none)) (fun v H2 => v = .non ∧ Q (.ref a) H2) (fun _ _ _ => False)
theorem pe_mkE {CX : CXT} {x : Str} {C fI : Addr} {k : Nat} {fd : FuncData} {ps : List Str} {sp : Sp} (T : OexC X.K C) (iC : PySem.W.findIn X.K (.ref C) "__init__" = some (some (.ref fI))) (tI : PySem.W.typeIn X.K (.ref fI) = some (.type "function"))
    (F1 : FnOk X.prog X.w X.K X.mg X.base CX k fI fd ps sp) (hr : Room (k + 1) X.A) (hb : Binds X.K fd ps []) (hx : Passes CX X (fun _ _ _ => False)) (hg : Gl X x) (hm : X.mg x = some (.ref C)) (ha : PA X (e :: es) ta)
    (hdb : (x == ("__debug__" : Str)) = false := by decide) (he : starEach (e :: es) X.env = (false, eval e X.env) :: starEach es X.env := by rfl) (hpl : (backTo pos (starEach es X.env)).any (·.1) = false := by rfl) :
    PE X (.Call (.Name x p) (e :: es) [] pos) (tMkE C sp ta) := by
  refine ⟨fun pins s σ H Q I h => ?_⟩
  obtain ⟨nm, q, N, bs, bm, sn, sub, ab, col, dd, k0, k1, k2, k3, k5, hC, hbm⟩ := T.cls
  refine wpAny_Call_Name_kw (ld_glob I hg hm ?_ hdb)
  refine PySem.W.callWith_K (h₀ := X.base) I.ok.mod.kin T.kC (thn (ha.run pos pins s σ H _ I h) fun us s1 ⟨vs, H1, I1, r1, hz, q1⟩ => ⟨I1.kIn, ?_⟩) he hpl
  show wpAny _ _ (call (.ref C) us) _ _ _
  obtain ⟨hp, g, dr, tk, os⟩ := s1
  have hsz : hp.objs.size ≤ hp.objs.size + 1 := Nat.le_succ _
  have hn : H1 (hp.objs.size + 1) = none := I1.hok.fresh hsz
  have hq := q1 (hp.objs.size + 1) hn
  have kk : ∀ b o, hp.get? b = some o → ((hp.push (PySem.W.kdv_tup us)).push (PySem.HandSPX.excO C hp.objs.size)).get? b = some o := fun b o e => Heap.get?_push_of_some _ (Heap.get?_push_of_some _ e)
  have hget : ((hp.push (PySem.W.kdv_tup us)).push (PySem.HandSPX.excO C hp.objs.size)).get? (hp.objs.size + 1) = some (PySem.HandSPX.excO C hp.objs.size) := by heap_get
  have I2 : Inv X pins σ (upd H1 (hp.objs.size + 1) (exo (hp.objs.size + 1) C none)) ⟨(hp.push (PySem.W.kdv_tup us)).push (PySem.HandSPX.excO C hp.objs.size), g, dr, tk, os⟩ :=
    I1.laid (t' := tk) (a := hp.objs.size + 1) (o := exo (hp.objs.size + 1) C none) (h' := (hp.push (PySem.W.kdv_tup us)).push (PySem.HandSPX.excO C hp.objs.size)) kk hsz (exo_ok hget)
  have r2 : Vals (V.ref (hp.objs.size + 1) :: vs) (Value.ref (hp.objs.size + 1) :: us) := .cons rfl r1
  have hl : (Value.ref (hp.objs.size + 1) :: us ++ []).length = ps.length := by
    have e := r2.length
    rw [F1.len _ _ _ _ hq] at e
    rw [List.append_nil]
    exact e.symm
  have hb2 : BindsTo ⟨(hp.push (PySem.W.kdv_tup us)).push (PySem.HandSPX.excO C hp.objs.size), g, dr, tk, os⟩ fd ⟨Value.ref (hp.objs.size + 1) :: us, []⟩ (ps.zip (Value.ref (hp.objs.size + 1) :: us)) := by
    have z := hb ⟨(hp.push (PySem.W.kdv_tup us)).push (PySem.HandSPX.excO C hp.objs.size), g, dr, tk, os⟩ (Value.ref (hp.objs.size + 1) :: us) I2.kIn hl
    rw [List.append_nil] at z
    exact z
  have hus : us.length ≤ sizeLine := by
    rw [← Paired.length r1, sizeLine_eq]
    omega
  refine wpAny_call (PySem.HandSPX.call_own F.excBase_ValueError (fun Y => PySem.HandSPX.refsVE_contains Y bm hbm) (I1.kIn _ _ hC) (PySem.W.looks_findIn I1.kIn iC) (fun self => PySem.W.bind_fn I1.kIn self tI) hus
    (codeAny_mono (F1.run _ X.stack _ _ ⟨Value.ref (hp.objs.size + 1) :: us, []⟩ (Value.ref (hp.objs.size + 1) :: us) _ _ (fun _ _ _ => False) (hr.make C us []) (I2.env0.make C us []) hb2 r2 hq) fun r s' hq' => ?_))
  cases r with
  | error er => exact hx pins σ _ _ er s' I2 hq'
  | ok fl =>
    cases fl with
    | ret u =>
      obtain ⟨v, H', I3, rv, ev, q3⟩ := I2.after hq'
      subst ev
      exact ⟨rv, ⟨V.ref (hp.objs.size + 1), H', I3, rfl, q3⟩⟩
    | next => exact False.elim hq'
    | brk => exact False.elim hq'
    | cont => exact False.elim hq'
/-- X(), an own exception class without own __init__, as a value -/
theorem pe_exc0 {C : Addr} {bmB : List Value} {B newId initId : String} {x : Str} (F : ExcBaseFacts B newId initId bmB) (q : PySem.W.excIn X.K C bmB newId = true) (gC : X.mg x = some (.ref C)) (kC : PySem.W.keepIn X.K (.ref C) = true) (hg : Gl X x)
    (hdb : (x == ("__debug__" : Str)) = false := by decide) :
    PE X (.Call (.Name x p) [] [] pos) (fun σ H Q => ∀ a, H a = none → Q (.ref a) (upd H a (ExO (.ref C) a))) := by
  refine ⟨fun pins s σ H Q I h => ?_⟩
  refine wpAny_Call_Name_kw (ld_glob I hg gC ?_ hdb)
  refine PySem.W.callWith_K0 I.kIn kC ?_
  show wpAny _ _ (call (.ref C) []) _ _ _
  obtain ⟨bm, N, nm, qn, bs, hdct, sn, sub, ab, col, dd, k0, k1, k2, k3, k5, mN, hC, hN, hni, T⟩ := exc_obj I.kIn q
  refine wpAny_call_exc_subT F T hC hN hni (fun h' a hm => ?_) (by show 0 ≤ sizeLine; exact Nat.zero_le _)
  have hn : H a = none := I.hok.gone hm.new
  obtain ⟨t, ht, _, _⟩ := hm.there
  exact ⟨.ref a, upd H a (ExO (.ref C) a), I.laidN hm.keeps hm.new hn (exO_ok ht ⟨rfl, rfl⟩ rfl rfl rfl (show 4 < 6 by decide)), rfl, h a hn⟩
/-- e.f, e an exception object with fields, in ordinary code -/
def tXg (K : PySem.W.Frag) (f : Str) (te : TE) : TE := fun σ H Q => te σ H fun x H1 => ∃ (a C d : Addr) (fs : List (Str × V)) (v : V), x = .ref a ∧ H1 a = some (exo a C (some d)) ∧ H1 d = some (exd d fs) ∧ XfC K C ∧
  PySem.W.findIn K (.ref C) f = some none ∧ fs.lookup f = some v ∧ Q v H1
theorem pe_xg {n : Str} (he : PE X e te) (hb : attributeBase e n X.env (eval e X.env) = eval e X.env := by rfl) :
    PE X (.Attribute e n pos) (tXg X.K n te) := by
  refine ⟨fun pins s σ H Q I h => ?_⟩
  refine attr_of hb (thn (he.run pins s σ H _ I h) fun u s1 hh => ?_)
  obtain ⟨x, H1, I1, rx, a, C, d, fs, v, ex, ea, ed, T, hno, l, q⟩ := hh
  subst ex
  obtain rfl : u = Value.ref a := rx
  obtain ⟨t1, ho⟩ := exo_at I1.hok ea
  obtain ⟨mA, hns, hr⟩ := exd_at I1.hok ed
  obtain ⟨od, hod, hl⟩ := lookIn_ns hns
  obtain ⟨u, hu, ru⟩ := RelO.some_of (v := v) (o := mA n) (by rw [← l]; exact hr n)
  have J : PySem.W.InstAt s1.heap a { cls := .ref C, dict := some d, data := .fields #[.ref t1, .none, .none, .none, .bool false, .none] } C (some od) := ⟨ho, rfl, rfl, hod⟩
  exact HandSPX.exc_get I1.kIn J T.ga T.gg T.exC (PySem.W.findObj_own T.hdC hno rfl (by rw [hl, hu])) (handed_of ru) ⟨v, H1, I1.tok _, ru, q⟩
/-- an exception object of the class at C stands at a -/
def ExAt (H : Hp) (a C : Addr) : Prop := (∃ d fs, H a = some (exo a C (some d)) ∧ H d = some (exd d fs)) ∨ H a = some (ExO (.ref C) a)
def rIsX (K : PySem.W.Frag) : List V → Hp → VK → Prop := fun xs H Q => ∃ (a C : Addr) (c : V) (u : Value) (b : Bool), xs = [.ref a, c] ∧ ClsV c u ∧ ExAt H a C ∧ ExcC K C ∧ PySem.W.kitOne K (.ref C) u = some b ∧ Q (.bl b) H
theorem call_isX : CallR X (.builtin "isinstance") (rIsX X.K) := by
  intro pins s σ H xs us Q I r h
  obtain ⟨a, C, c, u, b, rfl, k, hat, T, e, q⟩ := h
  obtain ⟨u1, u2, rfl, r1, r2⟩ := vals2 r
  cases (show u1 = Value.ref a from r1)
  have e2 := k.eq r2
  subst e2
  have hcl : (PySem.W.clsIn X.K C).isSome = true := by
    obtain ⟨cd, hc, _⟩ := PySem.W.any_some T.hd
    rw [hc]
    rfl
  obtain ⟨ox, od, J⟩ : ∃ ox od, PySem.W.InstAt s.heap a ox C od := by
    rcases hat with ⟨d, fs, ea, ed⟩ | ea
    · obtain ⟨t1, ho⟩ := exo_at I.hok ea
      obtain ⟨mA, hns, hr⟩ := exd_at I.hok ed
      obtain ⟨od, hod, hl⟩ := lookIn_ns hns
      exact ⟨{ cls := .ref C, dict := some d, data := .fields #[.ref t1, .none, .none, .none, .bool false, .none] }, some od, ⟨ho, rfl, rfl, hod⟩⟩
    · have x : ObjOk X.prog X.w H s.heap a (ExO (.ref C) a) := I.hok a _ ea
      obtain ⟨⟨oe, vs, ho, hz, hd, _⟩, _⟩ := x
      obtain ⟨oc, od, odt, osl⟩ := oe
      obtain ⟨h1, h2⟩ := hz
      dsimp only at h1 h2 hd
      subst h1 h2 hd
      exact ⟨_, none, ⟨ho, rfl, rfl, trivial⟩⟩
  exact PySem.W.kia_one (PySem.W.kitx_exc hcl T.hg T.hk T.hs T.ha T.hn T.ht T.hm) I.kIn J e (fun z => nomatch z) fun tk => ⟨.bl b, H, I.tok tk, rfl, q⟩
end
end Z

set_option maxHeartbeats 4000000
namespace Z
open PySem PySem.Spec PyProof.Rows L2
/-! ### facts of the head -/
abbrev FaK : Type := PySem.W.Frag → Bool
def obsX (fa : List FaK) (fn : List He.DefD) (K : PySem.W.Frag) : He.AlD := ((fa.all fun f => f K) && fn.all fun d => d.ok K, fn.map fun d => He.fnW K d.at_)
def SaysX (fa : List FaK) (fn : List He.DefD) (K : PySem.W.Frag) : Prop := obsX fa fn K = He.valD fn
def obsXG (n : Nat) (fa : List FaK) (fn : List He.DefD) (g : Addr → Option Obj) : He.AlD := obsX fa fn (He.frG g (He.asD g n))
def hookX (n : Nat) (fa : List FaK) (fn : List He.DefD) : PySem.W.Hook where
  α := He.AlD
  obs := fun s => obsXG n fa fn s.heap.get?
  val := fun _ => He.valD fn
  says := fun _ h => ∃ K : PySem.W.Frag, K.In h ∧ SaysX fa fn K
  of := fun _ _ e => ⟨_, He.frG_in, e⟩
  keeps := fun _ _ _ ⟨K, hK, c⟩ k => ⟨K, PySem.W.Frag.In.keeps hK k, c⟩
theorem obsXG_eq {n : Nat} {fa : List FaK} {fn : List He.DefD} {g : Addr → Option Obj} {s : Shared} (h : ∀ a, g a = s.heap.get? a) : obsXG n fa fn g = (hookX n fa fn).obs s := by
  have e : g = s.heap.get? := funext h
  rw [e] <;> rfl
section
variable {fa : List FaK} {fn : List He.DefD} {K : PySem.W.Frag}
theorem SaysX.fact (c : SaysX fa fn K) (i : Nat) {f : FaK} (h : fa[i]? = some f := by rfl) : f K = true := by
  have c1 := (He.ba (show ((fa.all fun f => f K) && fn.all fun d => d.ok K) = true from congrArg (fun z : He.AlD => z.1) c)).1
  exact List.all_eq_true.mp c1 f (List.mem_of_getElem? h)
theorem SaysX.def_ (c : SaysX fa fn K) (i : Nat) {d : He.DefD} (h : fn[i]? = some d := by rfl) : ∃ fd, FunD K d.name d.qual d.params d.body d.scope (d.dvs K) (d.kws K) (He.fAd K d.at_) fd := by
  have c2 := (He.ba (show ((fa.all fun f => f K) && fn.all fun d => d.ok K) = true from congrArg (fun z : He.AlD => z.1) c)).2
  have e : fn.map (fun d => He.fnW K d.at_) = fn.map He.DefD.val := congrArg (fun z : He.AlD => z.2) c
  have e2 : (fn.map fun d => He.fnW K d.at_)[i]? = (fn.map He.DefD.val)[i]? := by rw [e]
  rw [List.getElem?_map, List.getElem?_map, h] at e2
  exact He.DefD.funD (Option.some.inj e2) (List.all_eq_true.mp c2 d (List.mem_of_getElem? h))
end
/-! ### exception classes -/
def oexB (K : PySem.W.Frag) (C : Addr) : Bool := match K.lookup C with
  | some ⟨.type t, _, .cls cd, sl⟩ => decide (t = "type") && (match cd.mro, sl.toList with
    | .ref C' :: bm, [_, _, _, _, some (.builtin n), _] => decide (C' = C) && (decide (n = "ValueError.__new__") && (!cd.hasDel && (cd.hasDict && PySem.HandSPX.refsVE bm)))
    | _, _ => false)
  | _ => false
theorem oexB_ok {K : PySem.W.Frag} {C : Addr} (q : oexB K C = true) : ∃ nm q N bs bm sn sub ab col dd k0 k1 k2 k3 k5, K.lookup C = some (excClassObj nm q C N bs bm true sn sub ab col dd k0 k1 k2 k3 k5 "ValueError.__new__") ∧ PySem.HandSPX.refsVE bm = true := by
  unfold oexB at q
  split at q
  · rename_i t dd cd sl ho
    split at q
    · rename_i C' bm k0 k1 k2 k3 n k5 hm hs
      obtain ⟨q0, q⟩ := He.ba q
      obtain ⟨q1, q⟩ := He.ba q
      obtain ⟨q2, q⟩ := He.ba q
      obtain ⟨q3, q⟩ := He.ba q
      obtain ⟨q4, q5⟩ := He.ba q
      have e0 := of_decide_eq_true q0
      have e1 := of_decide_eq_true q1
      have e2 := of_decide_eq_true q2
      obtain ⟨nm, bs, mro, ns, qn, hd, sn, sub, ab, col, del⟩ := cd
      dsimp only at hm q3 q4
      have e3 : del = false := by
        cases del
        · rfl
        · cases q3
      subst hm e3 q4
      have hsl : sl = #[k0, k1, k2, k3, some (.builtin n), k5] := by
        obtain ⟨l⟩ := sl
        simp only at hs
        rw [hs]
      subst hsl
      rw [e0, e1, e2] at ho
      exact ⟨nm, qn, ns, bs, bm, sn, sub, ab, col, dd, k0, k1, k2, k3, k5, ho, q5⟩
    · obtain ⟨_, q⟩ := He.ba q
      cases q
  · cases q
/-- all that is asked of an exception class -/
def exkB (K : PySem.W.Frag) (C : Addr) : Bool :=
  He.eqO (PySem.W.findIn K (.ref C) "__setattr__") (some (some (.builtin "object.__setattr__"))) &&
  (decide (PySem.W.subIn K (.ref C) (.type "BaseException") = some true) &&
  (decide (PySem.W.typeIn K (.ref C) = some (.type "type")) &&
  (PySem.W.keepIn K (.ref C) &&
  (He.eqO (PySem.W.findIn K (.ref C) "__getattribute__") (some (some (.builtin "BaseException.__getattribute__"))) &&
  (He.eqO (PySem.W.findIn K (.ref C) "__getattr__") (some none) &&
  (PySem.W.hasDictIn K C &&
  (He.eqO (PySem.W.findIn K (.ref C) "__class__") (some (some (.builtin "object.__class__"))) &&
  (He.eqO (PySem.W.specialIn K (.builtin "object.__class__") "__get__") (some (some (.builtin "getset_descriptor.__get__"))) &&
  (decide (PySem.W.takesIn K (.builtin "object.__class__") = some true) &&
  decide (PySem.W.mroIn K C (.type "object") = some true))))))))))
structure Exk (K : PySem.W.Frag) (C : Addr) : Prop where
  sa : PySem.W.findIn K (.ref C) "__setattr__" = some (some (.builtin "object.__setattr__"))
  exC : PySem.W.subIn K (.ref C) (.type "BaseException") = some true
  tyC : PySem.W.typeIn K (.ref C) = some (.type "type")
  kC : PySem.W.keepIn K (.ref C) = true
  xf : XfC K C
  ec : ExcC K C
theorem exkB_ok {K : PySem.W.Frag} {C : Addr} (q : exkB K C = true) : Exk K C := by
  unfold exkB at q
  obtain ⟨h1, q⟩ := He.ba q
  obtain ⟨h2, q⟩ := He.ba q
  obtain ⟨h3, q⟩ := He.ba q
  obtain ⟨h4, q⟩ := He.ba q
  obtain ⟨h5, q⟩ := He.ba q
  obtain ⟨h6, q⟩ := He.ba q
  obtain ⟨h7, q⟩ := He.ba q
  obtain ⟨h8, q⟩ := He.ba q
  obtain ⟨h9, q⟩ := He.ba q
  obtain ⟨h10, h11⟩ := He.ba q
  have e2 := of_decide_eq_true h2
  exact ⟨He.eqO_ok h1, e2, of_decide_eq_true h3, h4, ⟨He.eqO_ok h5, He.eqO_ok h6, e2, h7⟩, ⟨He.eqO_ok h5, He.eqO_ok h6, e2, h7, He.eqO_ok h8, He.eqO_ok h9, of_decide_eq_true h10, of_decide_eq_true h11⟩⟩
theorem oex_of {K : PySem.W.Frag} {C : Addr} (q : oexB K C = true) (e : Exk K C) : OexC K C := ⟨oexB_ok q, e.sa, e.exC, e.tyC, e.kC⟩
/-! ### a global def that may be called -/
def Dn (P : Program) (w : World) (K : PySem.W.Frag) (mg : Str → Option Value) (base : Heap) (j : Nat) (x : Str) (ps : List Str) (sp : Sp) : Prop :=
  ∃ (f : Addr) (fd : FuncData), FnOk P w K mg base CX0 j f fd ps sp ∧ mg x = some (.ref f) ∧ PySem.W.keepIn K (.ref f) = true ∧ Binds K fd ps []
section
variable {X : Cx} {e : Expr} {es : List Expr} {t : TA} {p pos : Pos}
theorem pe_dn {k j : Nat} {x : Str} {ps : List Str} {sp : Sp} (D : Dn X.prog X.w X.K X.mg X.base j x ps sp) (hr : Room k X.A) (ha : PA X (e :: es) t) (hjk : j ≤ k := by decide) (hg : Gl X x := by rfl)
    (hdb : (x == ("__debug__" : Str)) = false := by decide) (he : starEach (e :: es) X.env = (false, eval e X.env) :: starEach es X.env := by rfl) (hpl : (backTo pos (starEach es X.env)).any (·.1) = false := by rfl) :
    PE X (.Call (.Name x p) (e :: es) [] pos) (tCall sp [] E0 t) := by
  obtain ⟨f, fd, G, hm, hk, hb⟩ := D
  exact pe_call G (hr.mono hjk) hg hm hk hb .nil pass0 ha hdb he hpl
end
end Z

set_option maxHeartbeats 4000000
namespace Z
open PySem PySem.Spec PyProof.Rows L2
/-! ### the pen -/
def penK (c : Addr) (a l : Int) : List (Key × V) := [(.inr "cells", .ref c), (.inr "at", .int a), (.inr "left", .int l)]
theorem key_ne {x y : Str} (h : ¬ x = y) : ¬ ((Sum.inr x : Key) = Sum.inr y) := fun q => h (Sum.inr.inj q)
theorem ca_ : ¬ (("cells" : Str) = "at") := by decide +kernel
theorem cl_ : ¬ (("cells" : Str) = "left") := by decide +kernel
theorem al_ : ¬ (("at" : Str) = "left") := by decide +kernel
theorem penK_cells (c : Addr) (a l : Int) : valV (penK c a l) (Sum.inr "cells" : Key) = some (.ref c) := valV_pos rfl
theorem penK_at (c : Addr) (a l : Int) : valV (penK c a l) (Sum.inr "at" : Key) = some (.int a) := by
  unfold penK
  rw [valV_neg (key_ne ca_)]
  exact valV_pos rfl
theorem penK_left (c : Addr) (a l : Int) : valV (penK c a l) (Sum.inr "left" : Key) = some (.int l) := by
  unfold penK
  rw [valV_neg (key_ne cl_), valV_neg (key_ne al_)]
  exact valV_pos rfl
theorem penK_put_at (c : Addr) (a l b : Int) : putK (penK c a l) (Sum.inr "at" : Key) (.int b) = penK c b l := by
  unfold putK
  rw [valV_any, penK_at, if_pos (show (some (V.int a)).isSome = true from rfl)]
  unfold penK
  simp only [List.map_cons, List.map_nil, if_neg (key_ne ca_), if_neg (key_ne (fun q => al_ q.symm)), if_true]
theorem penK_put_left (c : Addr) (a l b : Int) : putK (penK c a l) (Sum.inr "left" : Key) (.int b) = penK c a b := by
  unfold putK
  rw [valV_any, penK_left, if_pos (show (some (V.int l)).isSome = true from rfl)]
  unfold penK
  simp only [List.map_cons, List.map_nil, if_neg (key_ne cl_), if_neg (key_ne al_), if_true]
/-- a pen stands at p; at most t numbers were drawn -/
def Pen (H : Hp) (p : Addr) (t : Nat) : Prop := ∃ (c : Addr) (ns : List Int) (a l : Int), H p = some (.dK (penK c a l)) ∧ H c = some (.lst (ns.map V.int)) ∧ ns.length ≤ 63 ∧ 0 ≤ a ∧ a ≤ (t : Int) ∧ 0 ≤ l
/-- all but p is as it was -/
def Keep (p : Addr) (H H' : Hp) : Prop := ∀ a o, a ≠ p → H a = some o → H' a = some o
theorem Keep.refl (p : Addr) (H : Hp) : Keep p H H := fun _ _ _ h => h
theorem Keep.trans {p : Addr} {H H1 H2 : Hp} (a : Keep p H H1) (b : Keep p H1 H2) : Keep p H H2 := fun c o n h => b c o n (a c o n h)
theorem Keep.of {p : Addr} {H H' : Hp} (s : Same H H') : Keep p H H' := fun a o _ h => s a o h
theorem Keep.upd {p : Addr} {H H1 : Hp} (o : HO) (k : Keep p H H1) : Keep p H (upd H1 p o) := fun a u n h => by
  rw [upd_ne n]
  exact k a u n h
theorem Keep.new {p l : Addr} {H H1 : Hp} (o : HO) (k : Keep p H H1) (hl : H1 l = none) : Keep p H (L2.upd H1 l o) := fun a u n h => by
  have q := k a u n h
  rw [upd_ne (ne_of_none q hl)]
  exact q
theorem Same.new {l : Addr} {H H1 : Hp} (o : HO) (k : Same H H1) (hl : H1 l = none) : Same H (upd H1 l o) := fun a u h => by
  have q := k a u h
  rw [upd_ne (ne_of_none q hl)]
  exact q
theorem Pen.mono {H : Hp} {p : Addr} {t t' : Nat} (h : Pen H p t) (e : t ≤ t') : Pen H p t' := by
  obtain ⟨c, ns, a, l, h1, h2, h3, h4, h5, h6⟩ := h
  exact ⟨c, ns, a, l, h1, h2, h3, h4, by omega, h6⟩
/-- a pen is not touched where all stands -/
theorem Pen.same {H H' : Hp} {p : Addr} {t : Nat} (h : Pen H p t) (s : Same H H') : Pen H' p t := by
  obtain ⟨c, ns, a, l, h1, h2, h3⟩ := h
  exact ⟨c, ns, a, l, s _ _ h1, s _ _ h2, h3⟩
/-- what is no dict is not the pen -/
theorem Pen.ne {H : Hp} {p a : Addr} {t : Nat} {o : HO} (h : Pen H p t) (e : H a = some o) (d : ∀ kvs, o ≠ .dK kvs) : a ≠ p := by
  obtain ⟨c, ns, x, l, h1, _⟩ := h
  exact ne_of e h1 (d _)
def spPen (K : PySem.W.Frag) : Sp := fun vs H Q _ => ∃ (a : Addr) (ns : List Int), vs = [.ref a] ∧ SqL K H a (ns.map V.int) ∧ ns.length ≤ 63 ∧ ∀ H' p, Same H H' → H p = none → Pen H' p 0 → Q (.ref p) H'
def spDraw : Sp := fun vs H Q _ => ∃ (p : Addr) (m : Int) (t : Nat), vs = [.ref p, .int m] ∧ 0 < m ∧ m < 1073741824 ∧ t < 1000000000 ∧ Pen H p t ∧ ∀ H' (d : Int), 0 ≤ d → d < m → Pen H' p (t + 1) → Keep p H H' → Q (.int d) H'
def spPick : Sp := fun vs H Q _ => ∃ (p l : Addr) (xs : List V) (t : Nat), vs = [.ref p, .ref l] ∧ H l = some (.lst xs) ∧ 0 < xs.length ∧ xs.length < 1000 ∧ t < 1000000000 ∧ Pen H p t ∧
  ∀ H' (i : Nat) (v : V), xs[i]? = some v → Pen H' p (t + 1) → Keep p H H' → Q v H'
/-! ### small readings -/
theorem fmod_range {x m : Int} (h : 0 < m) : 0 ≤ x.fmod m ∧ x.fmod m < m := by
  rw [Int.fmod_eq_emod_of_nonneg _ (Int.le_of_lt h)]
  exact ⟨Int.emod_nonneg _ (by omega), Int.emod_lt_of_pos _ h⟩
theorem fdiv_nn {x m : Int} (hx : 0 ≤ x) (h : 0 < m) : 0 ≤ x.fdiv m := by
  rw [Int.fdiv_eq_ediv_of_nonneg _ (Int.le_of_lt h)]
  exact Int.ediv_nonneg hx (Int.le_of_lt h)
theorem mul_okf {x m : Int} (h : 0 < m) (hm : m ≤ 2147483648) : -(2 ^ 64) < x.fmod m ∧ x.fmod m < 2 ^ 64 := by
  have := fmod_range (x := x) h
  omega
theorem mul_okf1 {x m : Int} (h : 0 < m) (hm : m ≤ 2147483648) : -(2 ^ 64) < x.fmod m + 1 ∧ x.fmod m + 1 < 2 ^ 64 := by
  have := fmod_range (x := x) h
  omega
section
variable {H : Hp} {p c : Addr} {a l b : Int}
theorem pen_left (h : H p = some (.dK (penK c a l))) : DGet H p (.str "left") (some (.int l)) := by
  have z := DGet.k (k := (Sum.inr "left" : Key)) h
  rw [penK_left] at z
  exact z
theorem pen_at (h : H p = some (.dK (penK c a l))) : DGet H p (.str "at") (some (.int a)) := by
  have z := DGet.k (k := (Sum.inr "at" : Key)) h
  rw [penK_at] at z
  exact z
theorem pen_cells (h : H p = some (.dK (penK c a l))) : DGet H p (.str "cells") (some (.ref c)) := by
  have z := DGet.k (k := (Sum.inr "cells" : Key)) h
  rw [penK_cells] at z
  exact z
theorem pen_put_left (b : Int) (h : H p = some (.dK (penK c a l))) : DPut H p (.str "left") (.int b) (upd H p (.dK (penK c a b))) := by
  have z := DPut.k (k := (Sum.inr "left" : Key)) (v := .int b) h (show 3 < sizeLine by decide)
  rw [penK_put_left] at z
  exact z
theorem pen_put_at (b : Int) (h : H p = some (.dK (penK c a l))) : DPut H p (.str "at") (.int b) (upd H p (.dK (penK c b l))) := by
  have z := DPut.k (k := (Sum.inr "at" : Key)) (v := .int b) h (show 3 < sizeLine by decide)
  rw [penK_put_at] at z
  exact z
end
theorem lst_ne_dK {xs : List V} {kvs : List (Key × V)} : HO.lst xs ≠ .dK kvs := fun z => by cases z
/-- data: a list of ints -/
theorem dpAll_ints {K : PySem.W.Frag} {H : Hp} : ∀ ns : List Int, DpAll K H (ns.map V.int) (ns.map PyData.int)
  | [] => .nil
  | _ :: ns => .cons (.int _) (dpAll_ints ns)
theorem canLay_ints : ∀ ns : List Int, PyData.canLayAll0 (ns.map PyData.int) = true
  | [] => by simp [PyData.canLayAll0]
  | _ :: ns => by simp [PyData.canLayAll0, PyData.canLay0, canLay_ints ns]
theorem depth_ints : ∀ ns : List Int, PyData.depthAll (ns.map PyData.int) = 0
  | [] => by simp [PyData.depthAll]
  | _ :: ns => by simp [PyData.depthAll, PyData.depth, depth_ints ns]
theorem shaped_ints (ns : List Int) : SeqAt.shaped (.list (ns.map PyData.int)) = true := by
  simp [SeqAt.shaped, PyData.canLay0, canLay_ints, PyData.depth, depth_ints]
theorem shaped_nil : SeqAt.shaped (.list []) = true := shaped_ints []
theorem eqv_ints_nil (ns : List Int) : PyData.eqv (.list (ns.map PyData.int)) (.list []) = ns.isEmpty := by
  cases ns <;> simp [PyData.eqv, PyData.eqvAll]
theorem get_ints {ns : List Int} {i : Nat} (h : i < ns.length) : (ns.map V.int)[i]? = some (.int (ns[i]'h)) := by
  rw [List.getElem?_map, List.getElem?_eq_getElem h]
  rfl
end Z

set_option maxHeartbeats 0
namespace K00
open PySem PySem.Spec PyProof.Rows L2 Z
def top (i : Nat) : Stmt := PySem.Challenge.pw_loopsize_k00_errors_made_from_their_fiel.main.body.getD i (.Pass ⟨0, 0, 0, 0⟩)
abbrev s_law_pen : Stmt := top 40
abbrev s_law_draw : Stmt := top 41
abbrev s_law_pick : Stmt := top 42
abbrev s_law_made_a : Stmt := top 43
abbrev s_law_made_b : Stmt := top 44
abbrev s_law_made_c : Stmt := top 45
abbrev s_law_made_d : Stmt := top 46
abbrev s_law_made_e : Stmt := top 47
abbrev s_law_many_fields : Stmt := top 48
abbrev s_law_kinds_of : Stmt := top 49
abbrev s_law : Stmt := top 50
abbrev iBadText : Stmt := inClass (top 2) 0
abbrev iBadName : Stmt := inClass (top 3) 0
abbrev iBadNumber : Stmt := inClass (top 4) 0
abbrev iBadSize : Stmt := inClass (top 5) 0
abbrev iBadMany : Stmt := inClass (top 6) 0
abbrev iBadGrade : Stmt := inClass (top 7) 0
abbrev iTooMany : Stmt := inClass (top 8) 0
abbrev iTooLarge : Stmt := inClass (top 9) 0
abbrev iTooFar : Stmt := inClass (top 10) 0
abbrev iTooLong : Stmt := inClass (top 11) 0
abbrev iNoLoop : Stmt := inClass (top 12) 0
abbrev iNoStatement : Stmt := inClass (top 13) 0
abbrev iNoAccess : Stmt := inClass (top 14) 0
abbrev iNoArray : Stmt := inClass (top 15) 0
abbrev iNoWork : Stmt := inClass (top 16) 0
abbrev iNoNumber : Stmt := inClass (top 17) 0
abbrev iNoRead : Stmt := inClass (top 18) 0
abbrev iNoLag : Stmt := inClass (top 19) 0
abbrev iNotKept : Stmt := inClass (top 20) 0
abbrev iNotWhole : Stmt := inClass (top 21) 0
abbrev iUnlike : Stmt := inClass (top 22) 0
abbrev iDeeper : Stmt := inClass (top 23) 0
abbrev iDeep : Stmt := inClass (top 24) 0
abbrev iLong : Stmt := inClass (top 25) 0
abbrev iMixing : Stmt := inClass (top 26) 0
abbrev iSameArray : Stmt := inClass (top 30) 0
abbrev iNotSame : Stmt := inClass (top 31) 0
abbrev iTaken : Stmt := inClass (top 32) 0
abbrev iEndless : Stmt := inClass (top 33) 0
abbrev iBadDeed : Stmt := inClass (top 34) 0
abbrev iTakenName : Stmt := inClass (top 35) 0
abbrev iNoProgram : Stmt := inClass (top 36) 0
abbrev iNotInOrder : Stmt := inClass (top 37) 0
abbrev iNotSameFlow : Stmt := inClass (top 38) 0
def d_law_pen : He.DefD := ⟨("_law_pen", none), "_law_pen", "_law_pen", defArgs s_law_pen, defBody s_law_pen, defScope s_law_pen, [], []⟩
def d_law_draw : He.DefD := ⟨("_law_draw", none), "_law_draw", "_law_draw", defArgs s_law_draw, defBody s_law_draw, defScope s_law_draw, [], []⟩
def d_law_pick : He.DefD := ⟨("_law_pick", none), "_law_pick", "_law_pick", defArgs s_law_pick, defBody s_law_pick, defScope s_law_pick, [], []⟩
def d_law_made_a : He.DefD := ⟨("_law_made_a", none), "_law_made_a", "_law_made_a", defArgs s_law_made_a, defBody s_law_made_a, defScope s_law_made_a, [], []⟩
def d_law_made_b : He.DefD := ⟨("_law_made_b", none), "_law_made_b", "_law_made_b", defArgs s_law_made_b, defBody s_law_made_b, defScope s_law_made_b, [], []⟩
def d_law_made_c : He.DefD := ⟨("_law_made_c", none), "_law_made_c", "_law_made_c", defArgs s_law_made_c, defBody s_law_made_c, defScope s_law_made_c, [], []⟩
def d_law_made_d : He.DefD := ⟨("_law_made_d", none), "_law_made_d", "_law_made_d", defArgs s_law_made_d, defBody s_law_made_d, defScope s_law_made_d, [], []⟩
def d_law_made_e : He.DefD := ⟨("_law_made_e", none), "_law_made_e", "_law_made_e", defArgs s_law_made_e, defBody s_law_made_e, defScope s_law_made_e, [], []⟩
def d_law_many_fields : He.DefD := ⟨("_law_many_fields", none), "_law_many_fields", "_law_many_fields", defArgs s_law_many_fields, defBody s_law_many_fields, defScope s_law_many_fields, [], []⟩
def d_law_kinds_of : He.DefD := ⟨("_law_kinds_of", none), "_law_kinds_of", "_law_kinds_of", defArgs s_law_kinds_of, defBody s_law_kinds_of, defScope s_law_kinds_of, [], []⟩
def d_law : He.DefD := ⟨("law", none), "law", "law", defArgs s_law, defBody s_law, defScope s_law, [], []⟩
def dBadText : He.DefD := ⟨("BadText", some "__init__"), "__init__", "BadText.__init__", defArgs iBadText, defBody iBadText, defScope iBadText, [], []⟩
def dBadName : He.DefD := ⟨("BadName", some "__init__"), "__init__", "BadName.__init__", defArgs iBadName, defBody iBadName, defScope iBadName, [], []⟩
def dBadNumber : He.DefD := ⟨("BadNumber", some "__init__"), "__init__", "BadNumber.__init__", defArgs iBadNumber, defBody iBadNumber, defScope iBadNumber, [], []⟩
def dBadSize : He.DefD := ⟨("BadSize", some "__init__"), "__init__", "BadSize.__init__", defArgs iBadSize, defBody iBadSize, defScope iBadSize, [], []⟩
def dBadMany : He.DefD := ⟨("BadMany", some "__init__"), "__init__", "BadMany.__init__", defArgs iBadMany, defBody iBadMany, defScope iBadMany, [], []⟩
def dBadGrade : He.DefD := ⟨("BadGrade", some "__init__"), "__init__", "BadGrade.__init__", defArgs iBadGrade, defBody iBadGrade, defScope iBadGrade, [], []⟩
def dTooMany : He.DefD := ⟨("TooMany", some "__init__"), "__init__", "TooMany.__init__", defArgs iTooMany, defBody iTooMany, defScope iTooMany, [], []⟩
def dTooLarge : He.DefD := ⟨("TooLarge", some "__init__"), "__init__", "TooLarge.__init__", defArgs iTooLarge, defBody iTooLarge, defScope iTooLarge, [], []⟩
def dTooFar : He.DefD := ⟨("TooFar", some "__init__"), "__init__", "TooFar.__init__", defArgs iTooFar, defBody iTooFar, defScope iTooFar, [], []⟩
def dTooLong : He.DefD := ⟨("TooLong", some "__init__"), "__init__", "TooLong.__init__", defArgs iTooLong, defBody iTooLong, defScope iTooLong, [], []⟩
def dNoLoop : He.DefD := ⟨("NoLoop", some "__init__"), "__init__", "NoLoop.__init__", defArgs iNoLoop, defBody iNoLoop, defScope iNoLoop, [], []⟩
def dNoStatement : He.DefD := ⟨("NoStatement", some "__init__"), "__init__", "NoStatement.__init__", defArgs iNoStatement, defBody iNoStatement, defScope iNoStatement, [], []⟩
def dNoAccess : He.DefD := ⟨("NoAccess", some "__init__"), "__init__", "NoAccess.__init__", defArgs iNoAccess, defBody iNoAccess, defScope iNoAccess, [], []⟩
def dNoArray : He.DefD := ⟨("NoArray", some "__init__"), "__init__", "NoArray.__init__", defArgs iNoArray, defBody iNoArray, defScope iNoArray, [], []⟩
def dNoWork : He.DefD := ⟨("NoWork", some "__init__"), "__init__", "NoWork.__init__", defArgs iNoWork, defBody iNoWork, defScope iNoWork, [], []⟩
def dNoNumber : He.DefD := ⟨("NoNumber", some "__init__"), "__init__", "NoNumber.__init__", defArgs iNoNumber, defBody iNoNumber, defScope iNoNumber, [], []⟩
def dNoRead : He.DefD := ⟨("NoRead", some "__init__"), "__init__", "NoRead.__init__", defArgs iNoRead, defBody iNoRead, defScope iNoRead, [], []⟩
def dNoLag : He.DefD := ⟨("NoLag", some "__init__"), "__init__", "NoLag.__init__", defArgs iNoLag, defBody iNoLag, defScope iNoLag, [], []⟩
def dNotKept : He.DefD := ⟨("NotKept", some "__init__"), "__init__", "NotKept.__init__", defArgs iNotKept, defBody iNotKept, defScope iNotKept, [], []⟩
def dNotWhole : He.DefD := ⟨("NotWhole", some "__init__"), "__init__", "NotWhole.__init__", defArgs iNotWhole, defBody iNotWhole, defScope iNotWhole, [], []⟩
def dUnlike : He.DefD := ⟨("Unlike", some "__init__"), "__init__", "Unlike.__init__", defArgs iUnlike, defBody iUnlike, defScope iUnlike, [], []⟩
def dDeeper : He.DefD := ⟨("Deeper", some "__init__"), "__init__", "Deeper.__init__", defArgs iDeeper, defBody iDeeper, defScope iDeeper, [], []⟩
def dDeep : He.DefD := ⟨("Deep", some "__init__"), "__init__", "Deep.__init__", defArgs iDeep, defBody iDeep, defScope iDeep, [], []⟩
def dLong : He.DefD := ⟨("Long", some "__init__"), "__init__", "Long.__init__", defArgs iLong, defBody iLong, defScope iLong, [], []⟩
def dMixing : He.DefD := ⟨("Mixing", some "__init__"), "__init__", "Mixing.__init__", defArgs iMixing, defBody iMixing, defScope iMixing, [], []⟩
def dSameArray : He.DefD := ⟨("SameArray", some "__init__"), "__init__", "SameArray.__init__", defArgs iSameArray, defBody iSameArray, defScope iSameArray, [], []⟩
def dNotSame : He.DefD := ⟨("NotSame", some "__init__"), "__init__", "NotSame.__init__", defArgs iNotSame, defBody iNotSame, defScope iNotSame, [], []⟩
def dTaken : He.DefD := ⟨("Taken", some "__init__"), "__init__", "Taken.__init__", defArgs iTaken, defBody iTaken, defScope iTaken, [], []⟩
def dEndless : He.DefD := ⟨("Endless", some "__init__"), "__init__", "Endless.__init__", defArgs iEndless, defBody iEndless, defScope iEndless, [], []⟩
def dBadDeed : He.DefD := ⟨("BadDeed", some "__init__"), "__init__", "BadDeed.__init__", defArgs iBadDeed, defBody iBadDeed, defScope iBadDeed, [], []⟩
def dTakenName : He.DefD := ⟨("TakenName", some "__init__"), "__init__", "TakenName.__init__", defArgs iTakenName, defBody iTakenName, defScope iTakenName, [], []⟩
def dNoProgram : He.DefD := ⟨("NoProgram", some "__init__"), "__init__", "NoProgram.__init__", defArgs iNoProgram, defBody iNoProgram, defScope iNoProgram, [], []⟩
def dNotInOrder : He.DefD := ⟨("NotInOrder", some "__init__"), "__init__", "NotInOrder.__init__", defArgs iNotInOrder, defBody iNotInOrder, defScope iNotInOrder, [], []⟩
def dNotSameFlow : He.DefD := ⟨("NotSameFlow", some "__init__"), "__init__", "NotSameFlow.__init__", defArgs iNotSameFlow, defBody iNotSameFlow, defScope iNotSameFlow, [], []⟩
def fn0 : List He.DefD := [d_law_pen, d_law_draw, d_law_pick, d_law_made_a, d_law_made_b, d_law_made_c, d_law_made_d, d_law_made_e]
def fn1 : List He.DefD := [d_law_many_fields, d_law_kinds_of, d_law, dBadText, dBadName, dBadNumber, dBadSize, dBadMany]
def fn2 : List He.DefD := [dBadGrade, dTooMany, dTooLarge, dTooFar, dTooLong, dNoLoop, dNoStatement, dNoAccess]
def fn3 : List He.DefD := [dNoArray, dNoWork, dNoNumber, dNoRead, dNoLag, dNotKept, dNotWhole, dUnlike]
def fn4 : List He.DefD := [dDeeper, dDeep, dLong, dMixing, dSameArray, dNotSame, dTaken, dEndless]
def fn5 : List He.DefD := [dBadDeed, dTakenName, dNoProgram, dNotInOrder, dNotSameFlow]
def fn : List He.DefD := fn0 ++ fn1 ++ fn2 ++ fn3 ++ fn4 ++ fn5
def cl0 : List Str := ["BadText", "BadName", "BadNumber", "BadSize", "BadMany", "BadGrade", "TooMany", "TooLarge", "TooFar", "TooLong"]
def cl1 : List Str := ["NoLoop", "NoStatement", "NoAccess", "NoArray", "NoWork", "NoNumber", "NoRead", "NoLag", "NotKept", "NotWhole"]
def cl2 : List Str := ["Unlike", "Deeper", "Deep", "Long", "Mixing", "AtEnd", "AtStart", "OtherProgram", "SameArray", "NotSame"]
def cl3 : List Str := ["Taken", "Endless", "BadDeed", "TakenName", "NoProgram", "NotInOrder", "NotSameFlow"]
def cls : List Str := cl0 ++ cl1 ++ cl2 ++ cl3
def Cof (K : PySem.W.Frag) (k : Nat) : Addr := He.ga K (cls.getD k "")
def flds0 : List (Str × List Str) := [("BadText", ["line", "column"]), ("BadName", ["name"]), ("BadNumber", ["what", "number"]), ("BadSize", ["n"]), ("BadMany", ["many"]), ("BadGrade", ["grade"]), ("TooMany", ["what", "many", "limit"]), ("TooLarge", ["most"])]
def flds1 : List (Str × List Str) := [("TooFar", ["what", "limit"]), ("TooLong", ["many"]), ("NoLoop", ["loop"]), ("NoStatement", ["loop", "statement"]), ("NoAccess", ["access"]), ("NoArray", ["array"]), ("NoWork", ["work"]), ("NoNumber", ["number"])]
def flds2 : List (Str × List Str) := [("NoRead", ["read"]), ("NoLag", ["loop"]), ("NotKept", ["n", "work", "read"]), ("NotWhole", ["n", "work"]), ("Unlike", ["loop"]), ("Deeper", ["n", "chain"]), ("Deep", ["n", "counter"]), ("Long", ["works"])]
def flds3 : List (Str × List Str) := [("Mixing", ["loop", "statement"]), ("SameArray", ["array"]), ("NotSame", ["n", "counter"]), ("Taken", ["n", "counter"]), ("Endless", ["n"]), ("BadDeed", ["deed"]), ("TakenName", ["name"]), ("NoProgram", ["name"])]
def flds4 : List (Str × List Str) := [("NotInOrder", ["n", "first", "second"]), ("NotSameFlow", ["n", "work", "read"])]
def flds : List (Str × List Str) := flds0 ++ flds1 ++ flds2 ++ flds3 ++ flds4
def df0 : List Str := ["_law_pen", "_law_draw", "_law_pick", "_law_made_a", "_law_made_b", "_law_made_c"]
def df1 : List Str := ["_law_made_d", "_law_made_e", "_law_many_fields", "_law_kinds_of", "law"]
def dfs : List Str := df0 ++ df1
/-- isinstance of each error by each class -/
def kitB (K : PySem.W.Frag) (k j : Nat) : Bool := decide (PySem.W.kitOne K (.ref (Cof K k)) (.ref (Cof K j)) = some (decide (j = k)))
def fa : List FaK := [
  fun K => (cls ++ (["LoopError"] : List Str)).all fun x => (He.Fa.glo x).ok K,
  fun K => dfs.all fun x => (He.Fa.glo x).ok K,
  fun K => (["int", "len", "list", "isinstance", "range", "ValueError"] : List Str).all fun x => (He.Fa.free x).ok K,
  fun K => cls.all fun x => exkB K (He.ga K x),
  fun K => flds.all fun q => oexB K (He.ga K q.1) && (He.eqO (PySem.W.findIn K (.ref (He.ga K q.1)) "__init__") (some (some (.ref (He.ma K (He.ga K q.1) "__init__")))) && (decide (PySem.W.typeIn K (.ref (He.ma K (He.ga K q.1) "__init__")) = some (.type "function")) &&
    q.2.all fun f => He.eqO (PySem.W.findIn K (.ref (He.ga K q.1)) f) (some none))),
  fun K => (["AtEnd", "AtStart", "OtherProgram"] : List Str).all fun x => PySem.W.excIn K (He.ga K x) He.veBase "ValueError.__new__",
  fun K => (List.range 37).all fun k => (List.range 37).all fun j => kitB K k j,
  fun K => (List.range 37).all fun k => decide (PySem.W.kitOne K (.ref (Cof K k)) (.ref (He.ga K "LoopError")) = some true) && decide (PySem.W.kitOne K (.ref (Cof K k)) (.type "ValueError") = some true)]
abbrev R : PySem.W.OpenRow := PySem.W.OpenLaw.row PySem.Challenge.rw_loopsize_k00_errors_made_from_their_fiel
abbrev hk : PySem.W.Hook := hookX 5 fa fn
def ob (s : PySem.W.SharedT) : He.AlD := obsXG 5 fa fn (HandSHeadRun.getT s)
theorem ob_eq (s : PySem.W.SharedT) : ob s = hk.obs s.abs := obsXG_eq (HandSHeadRun.getT_eq s)
def nm0 : List Str := ["LoopError", "BadText", "BadName", "BadNumber", "BadSize", "BadMany", "BadGrade", "TooMany", "TooLarge", "TooFar", "TooLong", "NoLoop", "NoStatement", "NoAccess", "NoArray", "NoWork", "NoNumber", "NoRead", "NoLag", "NotKept"]
def nm1 : List Str := ["TooLong", "NoLoop", "NoStatement", "NoAccess", "NoArray", "NoWork", "NoNumber", "NoRead", "NoLag", "NotKept", "NotWhole", "Unlike", "Deeper", "Deep", "Long", "Mixing", "AtEnd", "AtStart", "OtherProgram", "SameArray"]
def nm2 : List Str := ["NotWhole", "Unlike", "Deeper", "Deep", "Long", "Mixing", "AtEnd", "AtStart", "OtherProgram", "SameArray", "NotSame", "Taken", "Endless", "BadDeed", "TakenName", "NoProgram", "NotInOrder", "NotSameFlow", "_law_pen", "_law_draw"]
def nm3 : List Str := ["NotSame", "Taken", "Endless", "BadDeed", "TakenName", "NoProgram", "NotInOrder", "NotSameFlow", "_law_pen", "_law_draw", "_law_pick", "_law_made_a", "_law_made_b", "_law_made_c", "_law_made_d", "_law_made_e", "_law_many_fields", "_law_kinds_of"]
def nm4 : List Str := ["_law_pick", "_law_made_a", "_law_made_b", "_law_made_c", "_law_made_d", "_law_made_e", "_law_many_fields", "_law_kinds_of"]
def names : List Str := nm0 ++ nm1 ++ nm2 ++ nm3 ++ nm4
end K00

set_option maxHeartbeats 0
namespace K00
open PySem PySem.Spec PyProof.Rows L2 Z
theorem run (w : World) : HandSHeadRun.RunEq R (PySem.W.view R.prog [50]) hk ob 20000 names w := by
  intro os
  kernel_rfl
end K00

set_option maxHeartbeats 4000000
namespace K00
open PySem PySem.Spec PyProof.Rows L2 Z
/-! ### what the text has written -/
abbrev FnP (K : PySem.W.Frag) (x : Str) (st : Stmt) (f : Addr) (fd : FuncData) : Prop := FunD K x x (defArgs st) (defBody st) (defScope st) [] [] f fd
/-- the built-in names that are still their own -/
structure Bt (mg : Str → Option Value) : Prop where
  int : mg "int" = none
  len : mg "len" = none
  list : mg "list" = none
section
variable {P : Program} {w : World} {K : PySem.W.Frag} {mg : Str → Option Value} {base : Heap}
theorem sc_law_pen : FnScope ["_law_script"] ["_law_script"] (defScope s_law_pen) := ⟨rfl, rfl, rfl, by decide +kernel, rfl, by decide +kernel, by decide +kernel⟩
theorem ok_pen {f : Addr} {fd : FuncData} (F : FnP K "_law_pen" s_law_pen f fd) (T : Bt mg) : FnOk P w K mg base CX0 1 f fd ["_law_script"] (spPen K) := by
  refine F.ok sc_law_pen (fun vs H Q E h => ?_) (fun cdv A outer s H vs Q E hr h => ?_)
  · obtain ⟨a, ns, rfl, _⟩ := h
    rfl
  · obtain ⟨a, ns, rfl, hS, hl, k⟩ := h
    have hu := hu_of hr
    refine ⟨_, PSs.nox (pss_one (ps_ret (pe_disp (pps_cons pe_str (pe_callTy call_list_of (by rfl) T.list (by decide +kernel) (pa_cons (pe_slice sl_list (pv 0) po_none (po_some pe_int)) pa_nil)) (pps_cons pe_str pe_int (pps_cons pe_str pe_int pps_nil))) (by rfl) (by rfl) (fun z => by cases z) (by decide)))), ?_⟩
    intro p hp
    refine ⟨_, rfl, _, rfl, a, ns.map V.int, rfl, ?_, fun q hq => ⟨q, _, rfl, .inl (SqL.of upd_same), fun l hl2 => ?_⟩⟩
    · exact Same.seq (Same.new _ (Same.refl H) hp) hS
    have npq : p ≠ q := fun z => by
      rw [← z, upd_same] at hq
      cases hq
    have npl : p ≠ l := fun z => by
      rw [← z, upd_ne npq, upd_same] at hl2
      cases hl2
    refine ⟨(by rw [upd_ne npl, upd_ne npq, upd_same]), penK l 0 0, rfl, (by show 3 ≤ 15; decide), ?_⟩
    have em : mergeK [] (penK l 0 0) = penK l 0 0 := by
      show putK (putK (putK [] (Sum.inr "cells" : Key) (.ref l)) (Sum.inr "at" : Key) (.int 0)) (Sum.inr "left" : Key) (.int 0) = penK l 0 0
      have e1 : putK ([] : List (Key × V)) (Sum.inr "cells" : Key) (.ref l) = [((Sum.inr "cells" : Key), V.ref l)] := putK_new (kvs := []) _ rfl
      have e2 : putK [((Sum.inr "cells" : Key), V.ref l)] (Sum.inr "at" : Key) (.int 0) = [((Sum.inr "cells" : Key), V.ref l), (Sum.inr "at", V.int 0)] := putK_new _ (by
        rw [valV_neg (key_ne ca_)]
        rfl)
      have e3 : putK [((Sum.inr "cells" : Key), V.ref l), (Sum.inr "at", V.int 0)] (Sum.inr "left" : Key) (.int 0) = penK l 0 0 := putK_new _ (by
        rw [valV_neg (key_ne cl_), valV_neg (key_ne al_)]
        rfl)
      rw [e1, e2, e3]
    rw [em]
    have hc : (cutV (ns.map V.int) none (some 63)) = (ns.map V.int) := by
      unfold cutV
      have e1 : HT.sIx (ns.map V.int).length 0 none = 0 := HT.sIx_none _ _
      have e2 : HT.sIx (ns.map V.int).length (ns.map V.int).length (some 63) = min 63 (ns.map V.int).length := HT.sIx_nat _ _ 63
      rw [e1, e2, List.drop_zero, List.length_map, Nat.sub_zero, Nat.min_eq_right hl, ← List.length_map (f := V.int), List.take_length]
    rw [hc]
    refine k _ p (fun b o e => ?_) hp ⟨l, ns, 0, 0, upd_same, by rw [upd_ne npl.symm, upd_same], hl, Int.le_refl 0, Int.le_refl 0, Int.le_refl 0⟩
    have nbp : b ≠ p := ne_of_none e hp
    have nbq : b ≠ q := fun z => by
      rw [← z, upd_ne nbp] at hq
      rw [hq] at e
      cases e
    have nbl : b ≠ l := fun z => by
      rw [← z, upd_ne nbq, upd_ne nbp] at hl2
      rw [hl2] at e
      cases e
    rw [upd_ne nbp, upd_ne nbl, upd_ne nbq, upd_ne nbp]
    exact e
theorem sc_law_draw : FnScope ["_law_pen_here", "_law_many", "_law_digit", "_law_spot", "_law_cell", "_law_mixed"] ["_law_pen_here", "_law_many"] (defScope s_law_draw) := ⟨rfl, rfl, rfl, by decide +kernel, rfl, by decide +kernel, by decide +kernel⟩
theorem ok_draw {f : Addr} {fd : FuncData} (F : FnP K "_law_draw" s_law_draw f fd) (T : Bt mg) : FnOk P w K mg base CX0 1 f fd ["_law_pen_here", "_law_many"] spDraw := by
  refine F.ok sc_law_draw (fun vs H Q E h => ?_) (fun cdv A outer s H vs Q E hr h => ?_)
  · obtain ⟨p, m, t, rfl, _⟩ := h
    rfl
  · obtain ⟨p, m, t, rfl, hm, hm2, ht, hP, k⟩ := h
    obtain ⟨c, ns, a, l, h1, h2, h3, h4, h5, h6⟩ := id hP
    have hu := hu_of hr
    have m0 : m ≠ 0 := by omega
    have mb : m.natAbs < 1073741824 := by omega
    have ncp : c ≠ p := ne_of h2 h1 lst_ne_dK
    have z1 : (2147483629 : Int) ≠ 0 := by decide
    have z2 : (2147483647 : Int) ≠ 0 := by decide
    have z3 : (2147483587 : Int) ≠ 0 := by decide
    have z4 : (2147483563 : Int) ≠ 0 := by decide
    refine ⟨_, PSs.nox (pss_cons (ps_if (pt_cmpR op_ge (pe_dget hu (pv 0) pe_str (fun _ _ => rfl)) (pv 1) (nomark _)) (pss_cons (ps_set (i := 2) sc_law_draw.nd rfl (Or.inl rfl) (pe_op op_modN (pe_callTy call_int1 (by rfl) T.int (by decide +kernel) (pa_cons (pe_dget hu (pv 0) pe_str (fun _ _ => rfl)) pa_nil)) (pv 1)))
      (pss_cons (ps_dput hu (pv 0) pe_str (pe_op op_fdivN (pe_dget hu (pv 0) pe_str (fun _ _ => rfl)) (pv 1)) rfl)
      (pss_one (ps_ret (pv 2))))) pss_nil)
      (pss_cons (ps_set (i := 3) sc_law_draw.nd rfl (Or.inl rfl) (pe_dget hu (pv 0) pe_str (fun _ _ => rfl)))
      (pss_cons (ps_dput hu (pv 0) pe_str (pe_op op_add (pv 3) pe_int) rfl)
      (pss_cons (ps_if (pt_cmpR (op_eqD hr.units) (pe_dget hu (pv 0) pe_str (fun _ _ => rfl)) (pe_lst pa_nil) (nomark _)) (pss_one (ps_ret (pe_op op_modN (pe_callTy call_int1 (by rfl) T.int (by decide +kernel) (pa_cons (pe_op op_add (pe_op op_mul pe_int (pv 3)) pe_int) pa_nil)) (pv 1)))) pss_nil)
      (pss_cons (ps_set (i := 4) sc_law_draw.nd rfl (Or.inl rfl) (pe_ix ix_list (pe_dget hu (pv 0) pe_str (fun _ _ => rfl)) (pe_op op_modN (pe_callTy call_int1 (by rfl) T.int (by decide +kernel) (pa_cons (pv 3) pa_nil)) (pe_callB call_len_seq (by rfl) T.len PySem.boot_len (pa_cons (pe_dget hu (pv 0) pe_str (fun _ _ => rfl)) pa_nil))) (fun _ _ => rfl)))
      (pss_cons (ps_if (PW.pt (pw_and (pt_cmpR op_lt (pv 3) (pe_callB call_len_seq (by rfl) T.len PySem.boot_len (pa_cons (pe_dget hu (pv 0) pe_str (fun _ _ => rfl)) pa_nil)) (nomark _)) (pw_and1 (pt_cmpR op_ge (pv 4) (pe_op op_pow pe_int pe_int) (nomark _))))) (pss_cons (ps_dput hu (pv 0) pe_str (pe_op op_fdivN (pe_op op_sub (pv 4) (pe_op op_pow pe_int pe_int)) (pv 1)) rfl)
      (pss_one (ps_ret (pe_op op_modN (pe_callTy call_int1 (by rfl) T.int (by decide +kernel) (pa_cons (pe_op op_sub (pv 4) (pe_op op_pow pe_int pe_int)) pa_nil)) (pv 1))))) pss_nil)
      (pss_cons (ps_set (i := 5) sc_law_draw.nd rfl (Or.inl rfl) (pe_op op_add (pe_op op_add (pe_op op_mul (pe_op op_add (pe_op op_modN (pe_callTy call_int1 (by rfl) T.int (by decide +kernel) (pa_cons (pv 4) pa_nil)) pe_int) pe_int) (pe_op op_add (pe_op op_mul pe_int (pv 3)) pe_int)) (pe_op op_mul (pe_op op_mul pe_int (pv 3)) (pv 3))) pe_int))
      (pss_cons (ps_set (i := 5) sc_law_draw.nd rfl (Or.inl rfl) (pe_op op_modN (pe_callTy call_int1 (by rfl) T.int (by decide +kernel) (pa_cons (pv 5) pa_nil)) pe_int))
      (pss_cons (ps_set (i := 5) sc_law_draw.nd rfl (Or.inl rfl) (pe_op op_modN (pe_callTy call_int1 (by rfl) T.int (by decide +kernel) (pa_cons (pe_op op_mul (pv 5) (pe_op op_add (pv 5) pe_int)) pa_nil)) pe_int))
      (pss_cons (ps_set (i := 5) sc_law_draw.nd rfl (Or.inl rfl) (pe_op op_modN (pe_callTy call_int1 (by rfl) T.int (by decide +kernel) (pa_cons (pe_op op_mul (pv 5) (pv 5)) pa_nil)) pe_int))
      (pss_one (ps_ret (pe_op op_modN (pe_callTy call_int1 (by rfl) T.int (by decide +kernel) (pa_cons (pe_op op_fdivN (pv 5) pe_int) pa_nil)) (pv 1)))))))))))))), ?_⟩
    refine ⟨_, rfl, p, _, rfl, pen_left h1, _, rfl, _, _, rfl, rfl, _, rfl, ?_⟩
    refine ite2 (fun _ => ?_) (fun _ => ?_)
    · refine ⟨_, rfl, p, _, rfl, pen_left h1, .inl ⟨_, rfl, _, rfl, _, _, rfl, rfl, m0, ?_⟩⟩
      refine ⟨_, rfl, p, _, rfl, pen_left h1, _, rfl, _, _, rfl, rfl, ⟨m0, mb⟩, _, rfl, p, _, rfl, pen_put_left _ h1, ?_⟩
      refine ⟨_, rfl, ?_⟩
      exact k _ _ (fmod_range hm).1 (fmod_range hm).2 ⟨c, ns, a, _, upd_same, by rw [upd_ne ncp]; exact h2, h3, h4, by omega, fdiv_nn h6 hm⟩ (Keep.upd _ (Keep.refl p H))
    · -- spot, at + 1
      refine ⟨_, rfl, p, _, rfl, pen_at h1, ?_⟩
      refine ⟨_, rfl, _, _, rfl, rfl, _, rfl, p, _, rfl, pen_put_at _ h1, ?_⟩
      have g1 : ∀ b, (upd H p (.dK (penK c (a + 1) b))) p = some (.dK (penK c (a + 1) b)) := fun b => upd_same
      have g2 : ∀ o, (upd H p o) c = some (.lst (ns.map V.int)) := fun o => by rw [upd_ne ncp]; exact h2
      have kE : ∀ o, Keep p H (upd H p o) := fun o => Keep.upd _ (Keep.refl p H)
      -- cells == []
      refine ⟨_, rfl, p, _, rfl, pen_cells (g1 _), Nat.zero_le _, fun e he => ?_⟩
      have nep : e ≠ p := fun z => by
        rw [z, upd_same] at he
        cases he
      have nec : e ≠ c := fun z => by
        rw [z, g2] at he
        cases he
      have g1' : ∀ o, (upd (upd H p (.dK (penK c (a + 1) l))) e o) p = some (.dK (penK c (a + 1) l)) := fun o => by rw [upd_ne nep.symm, upd_same]
      have g2' : ∀ o, (upd (upd H p (.dK (penK c (a + 1) l))) e o) c = some (.lst (ns.map V.int)) := fun o => by rw [upd_ne nec.symm]; exact g2 _
      have kE' : ∀ o, Keep p H (upd (upd H p (.dK (penK c (a + 1) l))) e o) := fun o => Keep.new _ (kE _) he
      have pen' : ∀ o, Pen (upd (upd H p (.dK (penK c (a + 1) l))) e o) p (t + 1) := fun o => ⟨c, ns, a + 1, l, g1' _, g2' _, h3, by omega, by omega, h6⟩
      refine ⟨.list (ns.map PyData.int), .list [], .lst (SqL.of (g2' _)) (dpAll_ints ns), .lst (SqL.of upd_same) .nil, shaped_ints ns, shaped_nil, _, rfl, ?_⟩
      rw [eqv_ints_nil]
      refine ite2 (fun hc => ?_) (fun hc => ?_)
      · refine ⟨_, rfl, _, _, rfl, rfl, .inl ⟨by decide, by decide⟩, _, _, rfl, rfl, .inl ⟨_, rfl, _, rfl, _, _, rfl, rfl, m0, ?_⟩⟩
        exact k _ _ (fmod_range hm).1 (fmod_range hm).2 (pen' _) (kE' _)
      · have hpos : 0 < ns.length := by
          cases ns with
          | nil => exact absurd rfl hc
          | cons n ns => exact Nat.succ_pos _
        have hposI : (0 : Int) < ((ns.map V.int).length : Int) := by
          rw [List.length_map]
          omega
        have fr := fmod_range (x := a) hposI
        obtain ⟨j, hj⟩ : ∃ j : Nat, a.fmod ((ns.map V.int).length : Int) = (j : Int) := ⟨(a.fmod ((ns.map V.int).length : Int)).toNat, by omega⟩
        have hjl : j < ns.length := by
          have z := fr.2
          rw [hj, List.length_map] at z
          omega
        refine ⟨_, rfl, p, _, rfl, pen_cells (g1' _), _, rfl, .inl ⟨_, rfl, _, rfl, p, _, rfl, pen_cells (g1' _), c, _, rfl, .inl (SqL.of (g2' _)), _, _, rfl, rfl, by omega, ?_⟩⟩
        refine ⟨c, _, (j : Int), _, rfl, congrArg V.int hj, SqL.of (g2' _), atI_nat (get_ints hjl), ?_⟩
        generalize hz : ns[j]'hjl = z
        -- spot < len(cells) and cell >= 10 ** 18
        refine ⟨_, rfl, _, rfl, p, _, rfl, pen_cells (g1' _), c, _, rfl, .inl (SqL.of (g2' _)), _, _, rfl, rfl, _, rfl, ?_⟩
        refine ite2 (fun _ => ?_) (fun _ => iteF ?_)
        · refine ⟨_, rfl, _, _, rfl, rfl, ⟨by decide, by decide, by decide⟩, _, _, rfl, rfl, _, rfl, ?_⟩
          refine ite2 (fun hz18 => ?_) (fun _ => ?_)
          · refine ⟨_, rfl, _, _, rfl, rfl, ⟨by decide, by decide, by decide⟩, _, _, rfl, rfl, _, rfl, _, _, rfl, rfl, ⟨m0, mb⟩, _, rfl, p, _, rfl, pen_put_left _ (g1' _), ?_⟩
            refine ⟨_, rfl, _, _, rfl, rfl, ⟨by decide, by decide, by decide⟩, _, _, rfl, rfl, .inl ⟨_, rfl, _, rfl, _, _, rfl, rfl, m0, ?_⟩⟩
            have hz0 : (0 : Int) ≤ z - 10 ^ (18 : Int).toNat := Int.sub_nonneg_of_le (of_decide_eq_true hz18)
            exact k _ _ (fmod_range hm).1 (fmod_range hm).2 ⟨c, ns, a + 1, _, upd_same, by rw [upd_ne ncp]; exact g2' _, h3, by omega, by omega, fdiv_nn hz0 hm⟩ (Keep.upd _ (kE' _))
          · refine ⟨_, rfl, .inl ⟨_, rfl, _, _, rfl, rfl, z1, _, _, rfl, rfl, _, rfl, _, _, rfl, rfl, .inl ⟨by decide, by decide⟩, _, _, rfl, rfl, _, _, rfl, rfl, .inl (mul_okf1 (by decide) (by decide)), ?_⟩⟩
            refine ⟨_, rfl, _, _, rfl, rfl, .inl ⟨by decide, by decide⟩, _, rfl, _, _, rfl, rfl, .inr ⟨by omega, by omega⟩, _, _, rfl, rfl, _, _, rfl, rfl, ?_⟩
            refine ⟨_, rfl, .inl ⟨_, rfl, _, _, rfl, rfl, z2, ?_⟩⟩
            refine ⟨_, rfl, _, rfl, _, _, rfl, rfl, _, _, rfl, rfl, .inl (mul_okf (by decide) (by decide)), .inl ⟨_, rfl, _, _, rfl, rfl, z3, ?_⟩⟩
            refine ⟨_, rfl, _, rfl, _, _, rfl, rfl, .inl (mul_okf (by decide) (by decide)), .inl ⟨_, rfl, _, _, rfl, rfl, z4, ?_⟩⟩
            refine ⟨_, rfl, _, _, rfl, rfl, ⟨by decide, by decide⟩, .inl ⟨_, rfl, _, rfl, _, _, rfl, rfl, m0, ?_⟩⟩
            exact k _ _ (fmod_range hm).1 (fmod_range hm).2 (pen' _) (kE' _)
        · refine ⟨_, rfl, .inl ⟨_, rfl, _, _, rfl, rfl, z1, _, _, rfl, rfl, _, rfl, _, _, rfl, rfl, .inl ⟨by decide, by decide⟩, _, _, rfl, rfl, _, _, rfl, rfl, .inl (mul_okf1 (by decide) (by decide)), ?_⟩⟩
          refine ⟨_, rfl, _, _, rfl, rfl, .inl ⟨by decide, by decide⟩, _, rfl, _, _, rfl, rfl, .inr ⟨by omega, by omega⟩, _, _, rfl, rfl, _, _, rfl, rfl, ?_⟩
          refine ⟨_, rfl, .inl ⟨_, rfl, _, _, rfl, rfl, z2, ?_⟩⟩
          refine ⟨_, rfl, _, rfl, _, _, rfl, rfl, _, _, rfl, rfl, .inl (mul_okf (by decide) (by decide)), .inl ⟨_, rfl, _, _, rfl, rfl, z3, ?_⟩⟩
          refine ⟨_, rfl, _, rfl, _, _, rfl, rfl, .inl (mul_okf (by decide) (by decide)), .inl ⟨_, rfl, _, _, rfl, rfl, z4, ?_⟩⟩
          refine ⟨_, rfl, _, _, rfl, rfl, ⟨by decide, by decide⟩, .inl ⟨_, rfl, _, rfl, _, _, rfl, rfl, m0, ?_⟩⟩
          exact k _ _ (fmod_range hm).1 (fmod_range hm).2 (pen' _) (kE' _)
theorem sc_law_pick : FnScope ["_law_pen_here", "_law_some"] ["_law_pen_here", "_law_some"] (defScope s_law_pick) := ⟨rfl, rfl, rfl, by decide +kernel, rfl, by decide +kernel, by decide +kernel⟩
theorem ok_pick {f : Addr} {fd : FuncData} (F : FnP K "_law_pick" s_law_pick f fd) (T : Bt mg) (dDraw : Dn P w K mg base 1 "_law_draw" ["_law_pen_here", "_law_many"] spDraw) : FnOk P w K mg base CX0 2 f fd ["_law_pen_here", "_law_some"] spPick := by
  refine F.ok sc_law_pick (fun vs H Q E h => ?_) (fun cdv A outer s H vs Q E hr h => ?_)
  · obtain ⟨p, l, xs, t, rfl, _⟩ := h
    rfl
  · obtain ⟨p, l, xs, t, rfl, hl, h0, h1, ht, hP, k⟩ := h
    refine ⟨_, PSs.nox (pss_one (ps_ret (pe_ix ix_list (pv 1) (pe_dn dDraw hr (pa_cons (pv 0) (pa_cons (pe_callB call_len_seq (by rfl) T.len PySem.boot_len (pa_cons (pv 1) pa_nil)) pa_nil))) (fun _ _ => rfl)))), ?_⟩
    refine ⟨_, rfl, _, rfl, _, rfl, l, _, rfl, .inl (SqL.of hl), ?_⟩
    refine ⟨p, _, t, rfl, by omega, by omega, ht, hP, fun H' d d0 d1 hP' kp => ?_⟩
    obtain ⟨j, rfl⟩ : ∃ j : Nat, d = (j : Int) := ⟨d.toNat, by omega⟩
    have hj : j < xs.length := by omega
    have hl' : H' l = some (.lst xs) := kp _ _ (hP.ne hl fun _ z => lst_ne_dK z) hl
    refine ⟨l, _, _, _, rfl, rfl, SqL.of hl', atI_nat (List.getElem?_eq_getElem hj), ?_⟩
    exact k _ _ _ (List.getElem?_eq_getElem hj) hP' kp
end
end K00

set_option maxHeartbeats 4000000
namespace K00
open PySem PySem.Spec PyProof.Rows L2 Z
/-! ### the classes, as the head tells them -/
structure EC (K : PySem.W.Frag) (mg : Str → Option Value) (x : Str) (fs : List Str) : Prop where
  gC : mg x = some (.ref (He.ga K x))
  ox : OexC K (He.ga K x)
  ex : Exk K (He.ga K x)
  iC : PySem.W.findIn K (.ref (He.ga K x)) "__init__" = some (some (.ref (He.ma K (He.ga K x) "__init__")))
  tI : PySem.W.typeIn K (.ref (He.ma K (He.ga K x) "__init__")) = some (.type "function")
  na : ∀ f ∈ fs, PySem.W.findIn K (.ref (He.ga K x)) f = some none
theorem flds_in : ∀ q ∈ flds, q.1 ∈ cls := by decide +kernel
theorem ec_of {K : PySem.W.Frag} {mg : Str → Option Value} {h : Heap} (X : K.In h) (G : h.Ns mainGlobals mg) (c : SaysX fa fn K) {x : Str} {fs : List Str} (hx : (x, fs) ∈ flds) : EC K mg x fs := by
  have hc := flds_in _ hx
  have h0 := List.all_eq_true.mp (c.fact 0) x (List.mem_append_left _ hc)
  have h3 := List.all_eq_true.mp (c.fact 3) x hc
  have h4 := List.all_eq_true.mp (c.fact 4) (x, fs) hx
  obtain ⟨q1, h4⟩ := He.ba h4
  obtain ⟨q2, h4⟩ := He.ba h4
  obtain ⟨q3, q4⟩ := He.ba h4
  have e := exkB_ok h3
  exact ⟨He.glo_ok X G h0, oex_of q1 e, e, He.eqO_ok q2, of_decide_eq_true q3, fun f hf => He.eqO_ok (List.all_eq_true.mp q4 f hf)⟩
/-! ### what __init__ leaves -/
def spIni (K : PySem.W.Frag) (x : Str) (fs : List Str) : Sp := fun vs H Q _ => ∃ (a : Addr) (ws : List V), vs = .ref a :: ws ∧ ws.length = fs.length ∧ H a = some (exo a (He.ga K x) none) ∧
  ∀ (d : Addr) (H' : Hp), H' a = some (exo a (He.ga K x) (some d)) → H' d = some (exd d (fs.zip ws).reverse) → Keep a H H' → Q .non H'
theorem two {ws : List V} (h : ws.length = 2) : ∃ y z, ws = [y, z] := match ws, h with | [y, z], _ => ⟨y, z, rfl⟩
theorem one {ws : List V} (h : ws.length = 1) : ∃ y, ws = [y] := match ws, h with | [y], _ => ⟨y, rfl⟩
theorem three {ws : List V} (h : ws.length = 3) : ∃ y z u, ws = [y, z, u] := match ws, h with | [y, z, u], _ => ⟨y, z, u, rfl⟩
section
variable {K : PySem.W.Frag} {mg : Str → Option Value} {x f1 f2 f3 n0 n1 n2 n3 : Str} {vs : List V} {H : Hp} {Q : VK} {E : XK}
theorem keep1 {a d : Addr} {o u : HO} (hd : H d = none) : Keep a H (upd (upd H d o) a u) := Keep.upd _ (Keep.new _ (Keep.refl a H) hd)
theorem rd_ini1 (M : EC K mg x [f1]) (h : spIni K x [f1] vs H Q E) :
    tOst K f1 (tVar 0) (tVar 1) { nx := fun _ H' => Q .non H', rt := Q } (L2.start [n0, n1] vs) H := by
  obtain ⟨a, ws, rfl, hl, ha, k⟩ := h
  obtain ⟨y, rfl⟩ := one hl
  refine ⟨_, rfl, _, rfl, a, _, rfl, M.ox, M.na _ (by simp), .inl ⟨ha, fun d hd nd => ?_⟩⟩
  exact k d _ upd_same (by rw [upd_ne nd, upd_same]; rfl) (keep1 hd)
theorem rd_ini2 (M : EC K mg x [f1, f2]) (h : spIni K x [f1, f2] vs H Q E) :
    tSeq (tOst K f1 (tVar 0) (tVar 1)) (tOst K f2 (tVar 0) (tVar 2)) { nx := fun _ H' => Q .non H', rt := Q } (L2.start [n0, n1, n2] vs) H := by
  obtain ⟨a, ws, rfl, hl, ha, k⟩ := h
  obtain ⟨y, z, rfl⟩ := two hl
  refine ⟨_, rfl, _, rfl, a, _, rfl, M.ox, M.na _ (by simp), .inl ⟨ha, fun d hd nd => ?_⟩⟩
  refine ⟨_, rfl, _, rfl, a, _, rfl, M.ox, M.na _ (by simp), .inr ⟨d, [(f1, y)], upd_same, (by rw [upd_ne nd, upd_same]), (by show 1 ≤ 900; decide), ?_⟩⟩
  refine k d _ (by rw [upd_ne nd.symm, upd_same]) upd_same fun b u nb e => ?_
  rw [upd_ne (ne_of_none e hd)]
  exact keep1 hd b u nb e
theorem rd_ini3 (M : EC K mg x [f1, f2, f3]) (h : spIni K x [f1, f2, f3] vs H Q E) :
    tSeq (tOst K f1 (tVar 0) (tVar 1)) (tSeq (tOst K f2 (tVar 0) (tVar 2)) (tOst K f3 (tVar 0) (tVar 3))) { nx := fun _ H' => Q .non H', rt := Q } (L2.start [n0, n1, n2, n3] vs) H := by
  obtain ⟨a, ws, rfl, hl, ha, k⟩ := h
  obtain ⟨y, z, u, rfl⟩ := three hl
  refine ⟨_, rfl, _, rfl, a, _, rfl, M.ox, M.na _ (by simp), .inl ⟨ha, fun d hd nd => ?_⟩⟩
  refine ⟨_, rfl, _, rfl, a, _, rfl, M.ox, M.na _ (by simp), .inr ⟨d, [(f1, y)], upd_same, (by rw [upd_ne nd, upd_same]), (by show 1 ≤ 900; decide), ?_⟩⟩
  refine ⟨_, rfl, _, rfl, a, _, rfl, M.ox, M.na _ (by simp), .inr ⟨d, [(f2, z), (f1, y)], (by rw [upd_ne nd.symm, upd_same]), upd_same, (by show 2 ≤ 900; decide), ?_⟩⟩
  refine k d _ (by rw [upd_ne nd.symm, upd_ne nd.symm, upd_same]) upd_same fun b v nb e => ?_
  rw [upd_ne (ne_of_none e hd), upd_ne (ne_of_none e hd)]
  exact keep1 hd b v nb e
end
/-- an exception class that may be called -/
def Mx (P : Program) (w : World) (K : PySem.W.Frag) (mg : Str → Option Value) (base : Heap) (x : Str) (ps fs : List Str) : Prop :=
  EC K mg x fs ∧ ∃ fd, FnOk P w K mg base CX0 1 (He.ma K (He.ga K x) "__init__") fd ps (spIni K x fs) ∧ Binds K fd ps []
theorem pe_mx {X : Cx} {e : Expr} {es : List Expr} {t : TA} {p pos : Pos} {k : Nat} {x : Str} {ps fs : List Str} (M : Mx X.prog X.w X.K X.mg X.base x ps fs) (hr : Room k X.A) (ha : PA X (e :: es) t) (hk : 2 ≤ k := by decide) (hg : Gl X x := by rfl)
    (hdb : (x == ("__debug__" : Str)) = false := by decide) (he : starEach (e :: es) X.env = (false, eval e X.env) :: starEach es X.env := by rfl) (hpl : (backTo pos (starEach es X.env)).any (·.1) = false := by rfl) :
    PE X (.Call (.Name x p) (e :: es) [] pos) (tMkE (He.ga X.K x) (spIni X.K x fs) t) := by
  obtain ⟨T, fd, F, hb⟩ := M
  exact pe_mkE T.ox T.iC T.tI F (hr.mono hk) hb pass0 hg T.gC ha hdb he hpl
section
variable {P : Program} {w : World} {K : PySem.W.Frag} {mg : Str → Option Value} {base : Heap}
abbrev FnI (K : PySem.W.Frag) (x : Str) (q : Str) (st : Stmt) (fd : FuncData) : Prop := FunD K "__init__" q (defArgs st) (defBody st) (defScope st) [] [] (He.ma K (He.ga K x) "__init__") fd
theorem scBadText : FnScope ["self", "line", "column"] ["self", "line", "column"] (defScope iBadText) := ⟨rfl, rfl, rfl, by decide +kernel, rfl, by decide +kernel, by decide +kernel⟩
theorem mxBadText {fd : FuncData} (T : EC K mg "BadText" ["line", "column"]) (F : FnI K "BadText" "BadText.__init__" iBadText fd) : Mx P w K mg base "BadText" ["self", "line", "column"] ["line", "column"] := by
  refine ⟨T, fd, ?_, F.bindsN fun _ _ _ _ _ _ us hl => match us, hl with | [_, _, _], _ => rfl⟩
  refine F.ok scBadText (fun vs H Q E h => ?_) (fun cdv A outer s H vs Q E hr h => ⟨_, PSs.nox (pss_cons (ps_ost (pv 0) (pv 1)) (pss_one (ps_ost (pv 0) (pv 2)))), rd_ini2 T h⟩)
  obtain ⟨a, ws, rfl, e, _⟩ := h
  rw [List.length_cons, e]
  rfl
theorem scBadName : FnScope ["self", "name"] ["self", "name"] (defScope iBadName) := ⟨rfl, rfl, rfl, by decide +kernel, rfl, by decide +kernel, by decide +kernel⟩
theorem mxBadName {fd : FuncData} (T : EC K mg "BadName" ["name"]) (F : FnI K "BadName" "BadName.__init__" iBadName fd) : Mx P w K mg base "BadName" ["self", "name"] ["name"] := by
  refine ⟨T, fd, ?_, F.bindsN fun _ _ _ _ _ _ us hl => match us, hl with | [_, _], _ => rfl⟩
  refine F.ok scBadName (fun vs H Q E h => ?_) (fun cdv A outer s H vs Q E hr h => ⟨_, PSs.nox (pss_one (ps_ost (pv 0) (pv 1))), rd_ini1 T h⟩)
  obtain ⟨a, ws, rfl, e, _⟩ := h
  rw [List.length_cons, e]
  rfl
theorem scBadNumber : FnScope ["self", "what", "number"] ["self", "what", "number"] (defScope iBadNumber) := ⟨rfl, rfl, rfl, by decide +kernel, rfl, by decide +kernel, by decide +kernel⟩
theorem mxBadNumber {fd : FuncData} (T : EC K mg "BadNumber" ["what", "number"]) (F : FnI K "BadNumber" "BadNumber.__init__" iBadNumber fd) : Mx P w K mg base "BadNumber" ["self", "what", "number"] ["what", "number"] := by
  refine ⟨T, fd, ?_, F.bindsN fun _ _ _ _ _ _ us hl => match us, hl with | [_, _, _], _ => rfl⟩
  refine F.ok scBadNumber (fun vs H Q E h => ?_) (fun cdv A outer s H vs Q E hr h => ⟨_, PSs.nox (pss_cons (ps_ost (pv 0) (pv 1)) (pss_one (ps_ost (pv 0) (pv 2)))), rd_ini2 T h⟩)
  obtain ⟨a, ws, rfl, e, _⟩ := h
  rw [List.length_cons, e]
  rfl
theorem scBadSize : FnScope ["self", "n"] ["self", "n"] (defScope iBadSize) := ⟨rfl, rfl, rfl, by decide +kernel, rfl, by decide +kernel, by decide +kernel⟩
theorem mxBadSize {fd : FuncData} (T : EC K mg "BadSize" ["n"]) (F : FnI K "BadSize" "BadSize.__init__" iBadSize fd) : Mx P w K mg base "BadSize" ["self", "n"] ["n"] := by
  refine ⟨T, fd, ?_, F.bindsN fun _ _ _ _ _ _ us hl => match us, hl with | [_, _], _ => rfl⟩
  refine F.ok scBadSize (fun vs H Q E h => ?_) (fun cdv A outer s H vs Q E hr h => ⟨_, PSs.nox (pss_one (ps_ost (pv 0) (pv 1))), rd_ini1 T h⟩)
  obtain ⟨a, ws, rfl, e, _⟩ := h
  rw [List.length_cons, e]
  rfl
theorem scBadMany : FnScope ["self", "many"] ["self", "many"] (defScope iBadMany) := ⟨rfl, rfl, rfl, by decide +kernel, rfl, by decide +kernel, by decide +kernel⟩
theorem mxBadMany {fd : FuncData} (T : EC K mg "BadMany" ["many"]) (F : FnI K "BadMany" "BadMany.__init__" iBadMany fd) : Mx P w K mg base "BadMany" ["self", "many"] ["many"] := by
  refine ⟨T, fd, ?_, F.bindsN fun _ _ _ _ _ _ us hl => match us, hl with | [_, _], _ => rfl⟩
  refine F.ok scBadMany (fun vs H Q E h => ?_) (fun cdv A outer s H vs Q E hr h => ⟨_, PSs.nox (pss_one (ps_ost (pv 0) (pv 1))), rd_ini1 T h⟩)
  obtain ⟨a, ws, rfl, e, _⟩ := h
  rw [List.length_cons, e]
  rfl
theorem scBadGrade : FnScope ["self", "grade"] ["self", "grade"] (defScope iBadGrade) := ⟨rfl, rfl, rfl, by decide +kernel, rfl, by decide +kernel, by decide +kernel⟩
theorem mxBadGrade {fd : FuncData} (T : EC K mg "BadGrade" ["grade"]) (F : FnI K "BadGrade" "BadGrade.__init__" iBadGrade fd) : Mx P w K mg base "BadGrade" ["self", "grade"] ["grade"] := by
  refine ⟨T, fd, ?_, F.bindsN fun _ _ _ _ _ _ us hl => match us, hl with | [_, _], _ => rfl⟩
  refine F.ok scBadGrade (fun vs H Q E h => ?_) (fun cdv A outer s H vs Q E hr h => ⟨_, PSs.nox (pss_one (ps_ost (pv 0) (pv 1))), rd_ini1 T h⟩)
  obtain ⟨a, ws, rfl, e, _⟩ := h
  rw [List.length_cons, e]
  rfl
theorem scTooMany : FnScope ["self", "what", "many", "limit"] ["self", "what", "many", "limit"] (defScope iTooMany) := ⟨rfl, rfl, rfl, by decide +kernel, rfl, by decide +kernel, by decide +kernel⟩
theorem mxTooMany {fd : FuncData} (T : EC K mg "TooMany" ["what", "many", "limit"]) (F : FnI K "TooMany" "TooMany.__init__" iTooMany fd) : Mx P w K mg base "TooMany" ["self", "what", "many", "limit"] ["what", "many", "limit"] := by
  refine ⟨T, fd, ?_, F.bindsN fun _ _ _ _ _ _ us hl => match us, hl with | [_, _, _, _], _ => rfl⟩
  refine F.ok scTooMany (fun vs H Q E h => ?_) (fun cdv A outer s H vs Q E hr h => ⟨_, PSs.nox (pss_cons (ps_ost (pv 0) (pv 1)) (pss_cons (ps_ost (pv 0) (pv 2)) (pss_one (ps_ost (pv 0) (pv 3))))), rd_ini3 T h⟩)
  obtain ⟨a, ws, rfl, e, _⟩ := h
  rw [List.length_cons, e]
  rfl
theorem scTooLarge : FnScope ["self", "most"] ["self", "most"] (defScope iTooLarge) := ⟨rfl, rfl, rfl, by decide +kernel, rfl, by decide +kernel, by decide +kernel⟩
theorem mxTooLarge {fd : FuncData} (T : EC K mg "TooLarge" ["most"]) (F : FnI K "TooLarge" "TooLarge.__init__" iTooLarge fd) : Mx P w K mg base "TooLarge" ["self", "most"] ["most"] := by
  refine ⟨T, fd, ?_, F.bindsN fun _ _ _ _ _ _ us hl => match us, hl with | [_, _], _ => rfl⟩
  refine F.ok scTooLarge (fun vs H Q E h => ?_) (fun cdv A outer s H vs Q E hr h => ⟨_, PSs.nox (pss_one (ps_ost (pv 0) (pv 1))), rd_ini1 T h⟩)
  obtain ⟨a, ws, rfl, e, _⟩ := h
  rw [List.length_cons, e]
  rfl
theorem scTooFar : FnScope ["self", "what", "limit"] ["self", "what", "limit"] (defScope iTooFar) := ⟨rfl, rfl, rfl, by decide +kernel, rfl, by decide +kernel, by decide +kernel⟩
theorem mxTooFar {fd : FuncData} (T : EC K mg "TooFar" ["what", "limit"]) (F : FnI K "TooFar" "TooFar.__init__" iTooFar fd) : Mx P w K mg base "TooFar" ["self", "what", "limit"] ["what", "limit"] := by
  refine ⟨T, fd, ?_, F.bindsN fun _ _ _ _ _ _ us hl => match us, hl with | [_, _, _], _ => rfl⟩
  refine F.ok scTooFar (fun vs H Q E h => ?_) (fun cdv A outer s H vs Q E hr h => ⟨_, PSs.nox (pss_cons (ps_ost (pv 0) (pv 1)) (pss_one (ps_ost (pv 0) (pv 2)))), rd_ini2 T h⟩)
  obtain ⟨a, ws, rfl, e, _⟩ := h
  rw [List.length_cons, e]
  rfl
theorem scTooLong : FnScope ["self", "many"] ["self", "many"] (defScope iTooLong) := ⟨rfl, rfl, rfl, by decide +kernel, rfl, by decide +kernel, by decide +kernel⟩
theorem mxTooLong {fd : FuncData} (T : EC K mg "TooLong" ["many"]) (F : FnI K "TooLong" "TooLong.__init__" iTooLong fd) : Mx P w K mg base "TooLong" ["self", "many"] ["many"] := by
  refine ⟨T, fd, ?_, F.bindsN fun _ _ _ _ _ _ us hl => match us, hl with | [_, _], _ => rfl⟩
  refine F.ok scTooLong (fun vs H Q E h => ?_) (fun cdv A outer s H vs Q E hr h => ⟨_, PSs.nox (pss_one (ps_ost (pv 0) (pv 1))), rd_ini1 T h⟩)
  obtain ⟨a, ws, rfl, e, _⟩ := h
  rw [List.length_cons, e]
  rfl
theorem scNoLoop : FnScope ["self", "loop"] ["self", "loop"] (defScope iNoLoop) := ⟨rfl, rfl, rfl, by decide +kernel, rfl, by decide +kernel, by decide +kernel⟩
theorem mxNoLoop {fd : FuncData} (T : EC K mg "NoLoop" ["loop"]) (F : FnI K "NoLoop" "NoLoop.__init__" iNoLoop fd) : Mx P w K mg base "NoLoop" ["self", "loop"] ["loop"] := by
  refine ⟨T, fd, ?_, F.bindsN fun _ _ _ _ _ _ us hl => match us, hl with | [_, _], _ => rfl⟩
  refine F.ok scNoLoop (fun vs H Q E h => ?_) (fun cdv A outer s H vs Q E hr h => ⟨_, PSs.nox (pss_one (ps_ost (pv 0) (pv 1))), rd_ini1 T h⟩)
  obtain ⟨a, ws, rfl, e, _⟩ := h
  rw [List.length_cons, e]
  rfl
theorem scNoStatement : FnScope ["self", "loop", "statement"] ["self", "loop", "statement"] (defScope iNoStatement) := ⟨rfl, rfl, rfl, by decide +kernel, rfl, by decide +kernel, by decide +kernel⟩
theorem mxNoStatement {fd : FuncData} (T : EC K mg "NoStatement" ["loop", "statement"]) (F : FnI K "NoStatement" "NoStatement.__init__" iNoStatement fd) : Mx P w K mg base "NoStatement" ["self", "loop", "statement"] ["loop", "statement"] := by
  refine ⟨T, fd, ?_, F.bindsN fun _ _ _ _ _ _ us hl => match us, hl with | [_, _, _], _ => rfl⟩
  refine F.ok scNoStatement (fun vs H Q E h => ?_) (fun cdv A outer s H vs Q E hr h => ⟨_, PSs.nox (pss_cons (ps_ost (pv 0) (pv 1)) (pss_one (ps_ost (pv 0) (pv 2)))), rd_ini2 T h⟩)
  obtain ⟨a, ws, rfl, e, _⟩ := h
  rw [List.length_cons, e]
  rfl
theorem scNoAccess : FnScope ["self", "access"] ["self", "access"] (defScope iNoAccess) := ⟨rfl, rfl, rfl, by decide +kernel, rfl, by decide +kernel, by decide +kernel⟩
theorem mxNoAccess {fd : FuncData} (T : EC K mg "NoAccess" ["access"]) (F : FnI K "NoAccess" "NoAccess.__init__" iNoAccess fd) : Mx P w K mg base "NoAccess" ["self", "access"] ["access"] := by
  refine ⟨T, fd, ?_, F.bindsN fun _ _ _ _ _ _ us hl => match us, hl with | [_, _], _ => rfl⟩
  refine F.ok scNoAccess (fun vs H Q E h => ?_) (fun cdv A outer s H vs Q E hr h => ⟨_, PSs.nox (pss_one (ps_ost (pv 0) (pv 1))), rd_ini1 T h⟩)
  obtain ⟨a, ws, rfl, e, _⟩ := h
  rw [List.length_cons, e]
  rfl
theorem scNoArray : FnScope ["self", "array"] ["self", "array"] (defScope iNoArray) := ⟨rfl, rfl, rfl, by decide +kernel, rfl, by decide +kernel, by decide +kernel⟩
theorem mxNoArray {fd : FuncData} (T : EC K mg "NoArray" ["array"]) (F : FnI K "NoArray" "NoArray.__init__" iNoArray fd) : Mx P w K mg base "NoArray" ["self", "array"] ["array"] := by
  refine ⟨T, fd, ?_, F.bindsN fun _ _ _ _ _ _ us hl => match us, hl with | [_, _], _ => rfl⟩
  refine F.ok scNoArray (fun vs H Q E h => ?_) (fun cdv A outer s H vs Q E hr h => ⟨_, PSs.nox (pss_one (ps_ost (pv 0) (pv 1))), rd_ini1 T h⟩)
  obtain ⟨a, ws, rfl, e, _⟩ := h
  rw [List.length_cons, e]
  rfl
theorem scNoWork : FnScope ["self", "work"] ["self", "work"] (defScope iNoWork) := ⟨rfl, rfl, rfl, by decide +kernel, rfl, by decide +kernel, by decide +kernel⟩
theorem mxNoWork {fd : FuncData} (T : EC K mg "NoWork" ["work"]) (F : FnI K "NoWork" "NoWork.__init__" iNoWork fd) : Mx P w K mg base "NoWork" ["self", "work"] ["work"] := by
  refine ⟨T, fd, ?_, F.bindsN fun _ _ _ _ _ _ us hl => match us, hl with | [_, _], _ => rfl⟩
  refine F.ok scNoWork (fun vs H Q E h => ?_) (fun cdv A outer s H vs Q E hr h => ⟨_, PSs.nox (pss_one (ps_ost (pv 0) (pv 1))), rd_ini1 T h⟩)
  obtain ⟨a, ws, rfl, e, _⟩ := h
  rw [List.length_cons, e]
  rfl
theorem scNoNumber : FnScope ["self", "number"] ["self", "number"] (defScope iNoNumber) := ⟨rfl, rfl, rfl, by decide +kernel, rfl, by decide +kernel, by decide +kernel⟩
theorem mxNoNumber {fd : FuncData} (T : EC K mg "NoNumber" ["number"]) (F : FnI K "NoNumber" "NoNumber.__init__" iNoNumber fd) : Mx P w K mg base "NoNumber" ["self", "number"] ["number"] := by
  refine ⟨T, fd, ?_, F.bindsN fun _ _ _ _ _ _ us hl => match us, hl with | [_, _], _ => rfl⟩
  refine F.ok scNoNumber (fun vs H Q E h => ?_) (fun cdv A outer s H vs Q E hr h => ⟨_, PSs.nox (pss_one (ps_ost (pv 0) (pv 1))), rd_ini1 T h⟩)
  obtain ⟨a, ws, rfl, e, _⟩ := h
  rw [List.length_cons, e]
  rfl
theorem scNoRead : FnScope ["self", "read"] ["self", "read"] (defScope iNoRead) := ⟨rfl, rfl, rfl, by decide +kernel, rfl, by decide +kernel, by decide +kernel⟩
theorem mxNoRead {fd : FuncData} (T : EC K mg "NoRead" ["read"]) (F : FnI K "NoRead" "NoRead.__init__" iNoRead fd) : Mx P w K mg base "NoRead" ["self", "read"] ["read"] := by
  refine ⟨T, fd, ?_, F.bindsN fun _ _ _ _ _ _ us hl => match us, hl with | [_, _], _ => rfl⟩
  refine F.ok scNoRead (fun vs H Q E h => ?_) (fun cdv A outer s H vs Q E hr h => ⟨_, PSs.nox (pss_one (ps_ost (pv 0) (pv 1))), rd_ini1 T h⟩)
  obtain ⟨a, ws, rfl, e, _⟩ := h
  rw [List.length_cons, e]
  rfl
theorem scNoLag : FnScope ["self", "loop"] ["self", "loop"] (defScope iNoLag) := ⟨rfl, rfl, rfl, by decide +kernel, rfl, by decide +kernel, by decide +kernel⟩
theorem mxNoLag {fd : FuncData} (T : EC K mg "NoLag" ["loop"]) (F : FnI K "NoLag" "NoLag.__init__" iNoLag fd) : Mx P w K mg base "NoLag" ["self", "loop"] ["loop"] := by
  refine ⟨T, fd, ?_, F.bindsN fun _ _ _ _ _ _ us hl => match us, hl with | [_, _], _ => rfl⟩
  refine F.ok scNoLag (fun vs H Q E h => ?_) (fun cdv A outer s H vs Q E hr h => ⟨_, PSs.nox (pss_one (ps_ost (pv 0) (pv 1))), rd_ini1 T h⟩)
  obtain ⟨a, ws, rfl, e, _⟩ := h
  rw [List.length_cons, e]
  rfl
theorem scNotKept : FnScope ["self", "n", "work", "read"] ["self", "n", "work", "read"] (defScope iNotKept) := ⟨rfl, rfl, rfl, by decide +kernel, rfl, by decide +kernel, by decide +kernel⟩
theorem mxNotKept {fd : FuncData} (T : EC K mg "NotKept" ["n", "work", "read"]) (F : FnI K "NotKept" "NotKept.__init__" iNotKept fd) : Mx P w K mg base "NotKept" ["self", "n", "work", "read"] ["n", "work", "read"] := by
  refine ⟨T, fd, ?_, F.bindsN fun _ _ _ _ _ _ us hl => match us, hl with | [_, _, _, _], _ => rfl⟩
  refine F.ok scNotKept (fun vs H Q E h => ?_) (fun cdv A outer s H vs Q E hr h => ⟨_, PSs.nox (pss_cons (ps_ost (pv 0) (pv 1)) (pss_cons (ps_ost (pv 0) (pv 2)) (pss_one (ps_ost (pv 0) (pv 3))))), rd_ini3 T h⟩)
  obtain ⟨a, ws, rfl, e, _⟩ := h
  rw [List.length_cons, e]
  rfl
theorem scNotWhole : FnScope ["self", "n", "work"] ["self", "n", "work"] (defScope iNotWhole) := ⟨rfl, rfl, rfl, by decide +kernel, rfl, by decide +kernel, by decide +kernel⟩
theorem mxNotWhole {fd : FuncData} (T : EC K mg "NotWhole" ["n", "work"]) (F : FnI K "NotWhole" "NotWhole.__init__" iNotWhole fd) : Mx P w K mg base "NotWhole" ["self", "n", "work"] ["n", "work"] := by
  refine ⟨T, fd, ?_, F.bindsN fun _ _ _ _ _ _ us hl => match us, hl with | [_, _, _], _ => rfl⟩
  refine F.ok scNotWhole (fun vs H Q E h => ?_) (fun cdv A outer s H vs Q E hr h => ⟨_, PSs.nox (pss_cons (ps_ost (pv 0) (pv 1)) (pss_one (ps_ost (pv 0) (pv 2)))), rd_ini2 T h⟩)
  obtain ⟨a, ws, rfl, e, _⟩ := h
  rw [List.length_cons, e]
  rfl
theorem scUnlike : FnScope ["self", "loop"] ["self", "loop"] (defScope iUnlike) := ⟨rfl, rfl, rfl, by decide +kernel, rfl, by decide +kernel, by decide +kernel⟩
theorem mxUnlike {fd : FuncData} (T : EC K mg "Unlike" ["loop"]) (F : FnI K "Unlike" "Unlike.__init__" iUnlike fd) : Mx P w K mg base "Unlike" ["self", "loop"] ["loop"] := by
  refine ⟨T, fd, ?_, F.bindsN fun _ _ _ _ _ _ us hl => match us, hl with | [_, _], _ => rfl⟩
  refine F.ok scUnlike (fun vs H Q E h => ?_) (fun cdv A outer s H vs Q E hr h => ⟨_, PSs.nox (pss_one (ps_ost (pv 0) (pv 1))), rd_ini1 T h⟩)
  obtain ⟨a, ws, rfl, e, _⟩ := h
  rw [List.length_cons, e]
  rfl
theorem scDeeper : FnScope ["self", "n", "chain"] ["self", "n", "chain"] (defScope iDeeper) := ⟨rfl, rfl, rfl, by decide +kernel, rfl, by decide +kernel, by decide +kernel⟩
theorem mxDeeper {fd : FuncData} (T : EC K mg "Deeper" ["n", "chain"]) (F : FnI K "Deeper" "Deeper.__init__" iDeeper fd) : Mx P w K mg base "Deeper" ["self", "n", "chain"] ["n", "chain"] := by
  refine ⟨T, fd, ?_, F.bindsN fun _ _ _ _ _ _ us hl => match us, hl with | [_, _, _], _ => rfl⟩
  refine F.ok scDeeper (fun vs H Q E h => ?_) (fun cdv A outer s H vs Q E hr h => ⟨_, PSs.nox (pss_cons (ps_ost (pv 0) (pv 1)) (pss_one (ps_ost (pv 0) (pv 2)))), rd_ini2 T h⟩)
  obtain ⟨a, ws, rfl, e, _⟩ := h
  rw [List.length_cons, e]
  rfl
theorem scDeep : FnScope ["self", "n", "counter"] ["self", "n", "counter"] (defScope iDeep) := ⟨rfl, rfl, rfl, by decide +kernel, rfl, by decide +kernel, by decide +kernel⟩
theorem mxDeep {fd : FuncData} (T : EC K mg "Deep" ["n", "counter"]) (F : FnI K "Deep" "Deep.__init__" iDeep fd) : Mx P w K mg base "Deep" ["self", "n", "counter"] ["n", "counter"] := by
  refine ⟨T, fd, ?_, F.bindsN fun _ _ _ _ _ _ us hl => match us, hl with | [_, _, _], _ => rfl⟩
  refine F.ok scDeep (fun vs H Q E h => ?_) (fun cdv A outer s H vs Q E hr h => ⟨_, PSs.nox (pss_cons (ps_ost (pv 0) (pv 1)) (pss_one (ps_ost (pv 0) (pv 2)))), rd_ini2 T h⟩)
  obtain ⟨a, ws, rfl, e, _⟩ := h
  rw [List.length_cons, e]
  rfl
theorem scLong : FnScope ["self", "works"] ["self", "works"] (defScope iLong) := ⟨rfl, rfl, rfl, by decide +kernel, rfl, by decide +kernel, by decide +kernel⟩
theorem mxLong {fd : FuncData} (T : EC K mg "Long" ["works"]) (F : FnI K "Long" "Long.__init__" iLong fd) : Mx P w K mg base "Long" ["self", "works"] ["works"] := by
  refine ⟨T, fd, ?_, F.bindsN fun _ _ _ _ _ _ us hl => match us, hl with | [_, _], _ => rfl⟩
  refine F.ok scLong (fun vs H Q E h => ?_) (fun cdv A outer s H vs Q E hr h => ⟨_, PSs.nox (pss_one (ps_ost (pv 0) (pv 1))), rd_ini1 T h⟩)
  obtain ⟨a, ws, rfl, e, _⟩ := h
  rw [List.length_cons, e]
  rfl
theorem scMixing : FnScope ["self", "loop", "statement"] ["self", "loop", "statement"] (defScope iMixing) := ⟨rfl, rfl, rfl, by decide +kernel, rfl, by decide +kernel, by decide +kernel⟩
theorem mxMixing {fd : FuncData} (T : EC K mg "Mixing" ["loop", "statement"]) (F : FnI K "Mixing" "Mixing.__init__" iMixing fd) : Mx P w K mg base "Mixing" ["self", "loop", "statement"] ["loop", "statement"] := by
  refine ⟨T, fd, ?_, F.bindsN fun _ _ _ _ _ _ us hl => match us, hl with | [_, _, _], _ => rfl⟩
  refine F.ok scMixing (fun vs H Q E h => ?_) (fun cdv A outer s H vs Q E hr h => ⟨_, PSs.nox (pss_cons (ps_ost (pv 0) (pv 1)) (pss_one (ps_ost (pv 0) (pv 2)))), rd_ini2 T h⟩)
  obtain ⟨a, ws, rfl, e, _⟩ := h
  rw [List.length_cons, e]
  rfl
theorem scSameArray : FnScope ["self", "array"] ["self", "array"] (defScope iSameArray) := ⟨rfl, rfl, rfl, by decide +kernel, rfl, by decide +kernel, by decide +kernel⟩
theorem mxSameArray {fd : FuncData} (T : EC K mg "SameArray" ["array"]) (F : FnI K "SameArray" "SameArray.__init__" iSameArray fd) : Mx P w K mg base "SameArray" ["self", "array"] ["array"] := by
  refine ⟨T, fd, ?_, F.bindsN fun _ _ _ _ _ _ us hl => match us, hl with | [_, _], _ => rfl⟩
  refine F.ok scSameArray (fun vs H Q E h => ?_) (fun cdv A outer s H vs Q E hr h => ⟨_, PSs.nox (pss_one (ps_ost (pv 0) (pv 1))), rd_ini1 T h⟩)
  obtain ⟨a, ws, rfl, e, _⟩ := h
  rw [List.length_cons, e]
  rfl
theorem scNotSame : FnScope ["self", "n", "counter"] ["self", "n", "counter"] (defScope iNotSame) := ⟨rfl, rfl, rfl, by decide +kernel, rfl, by decide +kernel, by decide +kernel⟩
theorem mxNotSame {fd : FuncData} (T : EC K mg "NotSame" ["n", "counter"]) (F : FnI K "NotSame" "NotSame.__init__" iNotSame fd) : Mx P w K mg base "NotSame" ["self", "n", "counter"] ["n", "counter"] := by
  refine ⟨T, fd, ?_, F.bindsN fun _ _ _ _ _ _ us hl => match us, hl with | [_, _, _], _ => rfl⟩
  refine F.ok scNotSame (fun vs H Q E h => ?_) (fun cdv A outer s H vs Q E hr h => ⟨_, PSs.nox (pss_cons (ps_ost (pv 0) (pv 1)) (pss_one (ps_ost (pv 0) (pv 2)))), rd_ini2 T h⟩)
  obtain ⟨a, ws, rfl, e, _⟩ := h
  rw [List.length_cons, e]
  rfl
theorem scTaken : FnScope ["self", "n", "counter"] ["self", "n", "counter"] (defScope iTaken) := ⟨rfl, rfl, rfl, by decide +kernel, rfl, by decide +kernel, by decide +kernel⟩
theorem mxTaken {fd : FuncData} (T : EC K mg "Taken" ["n", "counter"]) (F : FnI K "Taken" "Taken.__init__" iTaken fd) : Mx P w K mg base "Taken" ["self", "n", "counter"] ["n", "counter"] := by
  refine ⟨T, fd, ?_, F.bindsN fun _ _ _ _ _ _ us hl => match us, hl with | [_, _, _], _ => rfl⟩
  refine F.ok scTaken (fun vs H Q E h => ?_) (fun cdv A outer s H vs Q E hr h => ⟨_, PSs.nox (pss_cons (ps_ost (pv 0) (pv 1)) (pss_one (ps_ost (pv 0) (pv 2)))), rd_ini2 T h⟩)
  obtain ⟨a, ws, rfl, e, _⟩ := h
  rw [List.length_cons, e]
  rfl
theorem scEndless : FnScope ["self", "n"] ["self", "n"] (defScope iEndless) := ⟨rfl, rfl, rfl, by decide +kernel, rfl, by decide +kernel, by decide +kernel⟩
theorem mxEndless {fd : FuncData} (T : EC K mg "Endless" ["n"]) (F : FnI K "Endless" "Endless.__init__" iEndless fd) : Mx P w K mg base "Endless" ["self", "n"] ["n"] := by
  refine ⟨T, fd, ?_, F.bindsN fun _ _ _ _ _ _ us hl => match us, hl with | [_, _], _ => rfl⟩
  refine F.ok scEndless (fun vs H Q E h => ?_) (fun cdv A outer s H vs Q E hr h => ⟨_, PSs.nox (pss_one (ps_ost (pv 0) (pv 1))), rd_ini1 T h⟩)
  obtain ⟨a, ws, rfl, e, _⟩ := h
  rw [List.length_cons, e]
  rfl
theorem scBadDeed : FnScope ["self", "deed"] ["self", "deed"] (defScope iBadDeed) := ⟨rfl, rfl, rfl, by decide +kernel, rfl, by decide +kernel, by decide +kernel⟩
theorem mxBadDeed {fd : FuncData} (T : EC K mg "BadDeed" ["deed"]) (F : FnI K "BadDeed" "BadDeed.__init__" iBadDeed fd) : Mx P w K mg base "BadDeed" ["self", "deed"] ["deed"] := by
  refine ⟨T, fd, ?_, F.bindsN fun _ _ _ _ _ _ us hl => match us, hl with | [_, _], _ => rfl⟩
  refine F.ok scBadDeed (fun vs H Q E h => ?_) (fun cdv A outer s H vs Q E hr h => ⟨_, PSs.nox (pss_one (ps_ost (pv 0) (pv 1))), rd_ini1 T h⟩)
  obtain ⟨a, ws, rfl, e, _⟩ := h
  rw [List.length_cons, e]
  rfl
theorem scTakenName : FnScope ["self", "name"] ["self", "name"] (defScope iTakenName) := ⟨rfl, rfl, rfl, by decide +kernel, rfl, by decide +kernel, by decide +kernel⟩
theorem mxTakenName {fd : FuncData} (T : EC K mg "TakenName" ["name"]) (F : FnI K "TakenName" "TakenName.__init__" iTakenName fd) : Mx P w K mg base "TakenName" ["self", "name"] ["name"] := by
  refine ⟨T, fd, ?_, F.bindsN fun _ _ _ _ _ _ us hl => match us, hl with | [_, _], _ => rfl⟩
  refine F.ok scTakenName (fun vs H Q E h => ?_) (fun cdv A outer s H vs Q E hr h => ⟨_, PSs.nox (pss_one (ps_ost (pv 0) (pv 1))), rd_ini1 T h⟩)
  obtain ⟨a, ws, rfl, e, _⟩ := h
  rw [List.length_cons, e]
  rfl
theorem scNoProgram : FnScope ["self", "name"] ["self", "name"] (defScope iNoProgram) := ⟨rfl, rfl, rfl, by decide +kernel, rfl, by decide +kernel, by decide +kernel⟩
theorem mxNoProgram {fd : FuncData} (T : EC K mg "NoProgram" ["name"]) (F : FnI K "NoProgram" "NoProgram.__init__" iNoProgram fd) : Mx P w K mg base "NoProgram" ["self", "name"] ["name"] := by
  refine ⟨T, fd, ?_, F.bindsN fun _ _ _ _ _ _ us hl => match us, hl with | [_, _], _ => rfl⟩
  refine F.ok scNoProgram (fun vs H Q E h => ?_) (fun cdv A outer s H vs Q E hr h => ⟨_, PSs.nox (pss_one (ps_ost (pv 0) (pv 1))), rd_ini1 T h⟩)
  obtain ⟨a, ws, rfl, e, _⟩ := h
  rw [List.length_cons, e]
  rfl
theorem scNotInOrder : FnScope ["self", "n", "first", "second"] ["self", "n", "first", "second"] (defScope iNotInOrder) := ⟨rfl, rfl, rfl, by decide +kernel, rfl, by decide +kernel, by decide +kernel⟩
theorem mxNotInOrder {fd : FuncData} (T : EC K mg "NotInOrder" ["n", "first", "second"]) (F : FnI K "NotInOrder" "NotInOrder.__init__" iNotInOrder fd) : Mx P w K mg base "NotInOrder" ["self", "n", "first", "second"] ["n", "first", "second"] := by
  refine ⟨T, fd, ?_, F.bindsN fun _ _ _ _ _ _ us hl => match us, hl with | [_, _, _, _], _ => rfl⟩
  refine F.ok scNotInOrder (fun vs H Q E h => ?_) (fun cdv A outer s H vs Q E hr h => ⟨_, PSs.nox (pss_cons (ps_ost (pv 0) (pv 1)) (pss_cons (ps_ost (pv 0) (pv 2)) (pss_one (ps_ost (pv 0) (pv 3))))), rd_ini3 T h⟩)
  obtain ⟨a, ws, rfl, e, _⟩ := h
  rw [List.length_cons, e]
  rfl
theorem scNotSameFlow : FnScope ["self", "n", "work", "read"] ["self", "n", "work", "read"] (defScope iNotSameFlow) := ⟨rfl, rfl, rfl, by decide +kernel, rfl, by decide +kernel, by decide +kernel⟩
theorem mxNotSameFlow {fd : FuncData} (T : EC K mg "NotSameFlow" ["n", "work", "read"]) (F : FnI K "NotSameFlow" "NotSameFlow.__init__" iNotSameFlow fd) : Mx P w K mg base "NotSameFlow" ["self", "n", "work", "read"] ["n", "work", "read"] := by
  refine ⟨T, fd, ?_, F.bindsN fun _ _ _ _ _ _ us hl => match us, hl with | [_, _, _, _], _ => rfl⟩
  refine F.ok scNotSameFlow (fun vs H Q E h => ?_) (fun cdv A outer s H vs Q E hr h => ⟨_, PSs.nox (pss_cons (ps_ost (pv 0) (pv 1)) (pss_cons (ps_ost (pv 0) (pv 2)) (pss_one (ps_ost (pv 0) (pv 3))))), rd_ini3 T h⟩)
  obtain ⟨a, ws, rfl, e, _⟩ := h
  rw [List.length_cons, e]
  rfl
end
end K00

set_option maxHeartbeats 4000000
namespace K00
open PySem PySem.Spec PyProof.Rows L2 Z
/-! ### the errors, made -/
def many0 : List Nat := [2, 1, 2, 1, 1, 1, 3, 1, 2, 1, 1, 2, 1, 1, 1, 1, 1, 1, 3, 2]
def many1 : List Nat := [1, 2, 2, 1, 2, 0, 0, 0, 1, 2, 2, 1, 1, 1, 1, 3, 3]
def many (k : Nat) : Nat := (many0 ++ many1).getD k 0
def KeptAt (H : Hp) (n : Nat) (w : V) (l : Addr) : Prop := match n with
  | 0 => H l = some (.lst [])
  | 1 => H l = some (.lst [w])
  | 2 => ∃ t, H t = some (.tup [w, .int 1]) ∧ H l = some (.lst [w, .ref t])
  | _ => ∃ t x, H t = some (.tup [w, .int 1]) ∧ H x = some (.lst [w]) ∧ H l = some (.lst [w, .ref t, .ref x])
/-- what is handed back: the error and its fields -/
def Out (K : PySem.W.Frag) (H : Hp) (k : Nat) (w : V) (Q : VK) : Prop := ∀ (H' : Hp) (e l p : Addr), Same H H' → ExAt H' e (Cof K k) → KeptAt H' (many k) w l → H' p = some (.tup [.ref e, .ref l]) → Q (.ref p) H'
def spMade (K : PySem.W.Frag) (lo : Nat) : Sp := fun vs H Q _ => ∃ (k : Nat) (w : V), vs = [.int (k : Int), w] ∧ lo ≤ k ∧ k < 37 ∧ Out K H k w Q
theorem Same.keep {H H1 H' : Hp} {a : Addr} {o : HO} (s : Same H H1) (ha : H1 a = none) (kp : Keep a (upd H1 a o) H') : Same H H' := fun b u e => by
  have q := s b u e
  have nb : b ≠ a := ne_of_none q ha
  exact kp b u nb (by rw [upd_ne nb]; exact q)
theorem ex_upd {H : Hp} {a d l : Addr} {C : Addr} {fs : List (Str × V)} (o : HO) (h1 : H a = some (exo a C (some d))) (h2 : H d = some (exd d fs)) (hl : H l = none) : (upd H l o) a = some (exo a C (some d)) ∧ (upd H l o) d = some (exd d fs) :=
  ⟨by rw [upd_ne (ne_of_none h1 hl)]; exact h1, by rw [upd_ne (ne_of_none h2 hl)]; exact h2⟩
theorem at_upd {H : Hp} {t l : Addr} {u : HO} (o : HO) (h : H t = some u) (hl : H l = none) : (upd H l o) t = some u := by
  rw [upd_ne (ne_of_none h hl)]
  exact h
theorem sz1 : 1 ≤ sizeLine := by decide
theorem sz2 : 2 ≤ sizeLine := by decide
theorem sz3 : 3 ≤ sizeLine := by decide
section
variable {K : PySem.W.Frag} {mg : Str → Option Value} {x f1 f2 f3 : Str} {H : Hp} {Q : VK} {D : Ends} {k : Nat} {w v0 : V} {u : Option V}
theorem look_hd {f : Str} {v : V} {r : List (Str × V)} : List.lookup f ((f, v) :: r) = some v := by simp [List.lookup]
theorem look_tl {f g : Str} {v : V} {r : List (Str × V)} (h : ¬ f = g) : List.lookup f ((g, v) :: r) = List.lookup f r := by
  have e : (f == g) = false := by simpa using h
  simp [List.lookup, e]
theorem look1 {v : V} : List.lookup f1 [(f1, v)] = some v := look_hd
theorem leaf1 (M : EC K mg x [f1]) (hx : He.ga K x = Cof K k) (hm : many k = 1) (hD : D.rt = Q) (h : Out K H k w Q) :
    tSeq (tAsg (tMkE (He.ga K x) (spIni K x [f1]) (tCons (tVar 1) tNil)) (gName 2)) (tRet (tTup (tCons (tVar 2) (tCons (tLst (tCons (tXg K f1 (tVar 2)) tNil)) tNil)))) D [some v0, some w, u] H := by
  refine ⟨_, rfl, (by show 1 ≤ 1000; decide), fun a ha => ⟨a, [w], rfl, rfl, upd_same, fun d H' hA hD' kp => ⟨rfl, ?_⟩⟩⟩
  have s1 : Same H H' := Same.keep (Same.refl H) ha kp
  refine ⟨_, rfl, _, rfl, a, _, d, _, w, rfl, hA, hD', M.ex.xf, M.na _ (by simp), look1, sz1, fun l hl => ?_⟩
  obtain ⟨hA2, hD2⟩ := ex_upd (.lst [w]) hA hD' hl
  refine ⟨sz2, fun p hp => ?_⟩
  obtain ⟨hA3, hD3⟩ := ex_upd (.tup [.ref a, .ref l]) hA2 hD2 hp
  rw [hD]
  refine h _ a l p (Same.new _ (Same.new _ s1 hl) hp) (.inl ⟨d, _, hx ▸ hA3, hD3⟩) ?_ upd_same
  rw [hm]
  exact at_upd _ upd_same hp
theorem leaf2 (M : EC K mg x [f1, f2]) (hx : He.ga K x = Cof K k) (hm : many k = 2) (n12 : ¬ f1 = f2) (hD : D.rt = Q) (h : Out K H k w Q) :
    tSeq (tAsg (tMkE (He.ga K x) (spIni K x [f1, f2]) (tCons (tVar 1) (tCons (tTup (tCons (tVar 1) (tCons (tC (.int 1)) tNil))) tNil))) (gName 2)) (tRet (tTup (tCons (tVar 2) (tCons (tLst (tCons (tXg K f1 (tVar 2)) (tCons (tXg K f2 (tVar 2)) tNil))) tNil)))) D [some v0, some w, u] H := by
  refine ⟨_, rfl, _, rfl, sz2, fun t ht => ⟨(by show 2 ≤ 1000; decide), fun a ha => ⟨a, [w, .ref t], rfl, rfl, upd_same, fun d H' hA hD' kp => ⟨rfl, ?_⟩⟩⟩⟩
  have s1 : Same H H' := Same.keep (Same.new _ (Same.refl H) ht) ha kp
  have t1 : H' t = some (.tup [w, .int 1]) := Same.keep (Same.refl _) ha kp t _ upd_same
  have l1 : List.lookup f1 ([f1, f2].zip [w, V.ref t]).reverse = some w := by
    show List.lookup f1 [(f2, V.ref t), (f1, w)] = some w
    rw [look_tl n12, look_hd]
  have l2 : List.lookup f2 ([f1, f2].zip [w, V.ref t]).reverse = some (.ref t) := by
    show List.lookup f2 [(f2, V.ref t), (f1, w)] = some (.ref t)
    rw [look_hd]
  refine ⟨_, rfl, _, rfl, a, _, d, _, w, rfl, hA, hD', M.ex.xf, M.na _ (by simp), l1, _, rfl, a, _, d, _, _, rfl, hA, hD', M.ex.xf, M.na _ (by simp), l2, sz2, fun l hl => ?_⟩
  obtain ⟨hA2, hD2⟩ := ex_upd (.lst [w, .ref t]) hA hD' hl
  refine ⟨sz2, fun p hp => ?_⟩
  obtain ⟨hA3, hD3⟩ := ex_upd (.tup [.ref a, .ref l]) hA2 hD2 hp
  rw [hD]
  refine h _ a l p (Same.new _ (Same.new _ s1 hl) hp) (.inl ⟨d, _, hx ▸ hA3, hD3⟩) ?_ upd_same
  rw [hm]
  exact ⟨t, at_upd _ (at_upd _ t1 hl) hp, at_upd _ upd_same hp⟩
theorem leaf3 (M : EC K mg x [f1, f2, f3]) (hx : He.ga K x = Cof K k) (hm : many k = 3) (n12 : ¬ f1 = f2) (n13 : ¬ f1 = f3) (n23 : ¬ f2 = f3) (hD : D.rt = Q) (h : Out K H k w Q) :
    tSeq (tAsg (tMkE (He.ga K x) (spIni K x [f1, f2, f3]) (tCons (tVar 1) (tCons (tTup (tCons (tVar 1) (tCons (tC (.int 1)) tNil))) (tCons (tLst (tCons (tVar 1) tNil)) tNil)))) (gName 2)) (tRet (tTup (tCons (tVar 2) (tCons (tLst (tCons (tXg K f1 (tVar 2)) (tCons (tXg K f2 (tVar 2)) (tCons (tXg K f3 (tVar 2)) tNil)))) tNil)))) D [some v0, some w, u] H := by
  refine ⟨_, rfl, _, rfl, sz2, fun t ht => ⟨_, rfl, sz1, fun y hy => ⟨(by show 3 ≤ 1000; decide), fun a ha => ⟨a, [w, .ref t, .ref y], rfl, rfl, upd_same, fun d H' hA hD' kp => ⟨rfl, ?_⟩⟩⟩⟩⟩
  have s1 : Same H H' := Same.keep (Same.new _ (Same.new _ (Same.refl H) ht) hy) ha kp
  have t1 : H' t = some (.tup [w, .int 1]) := Same.keep (Same.refl _) ha kp t _ (at_upd _ upd_same hy)
  have y1 : H' y = some (.lst [w]) := Same.keep (Same.refl _) ha kp y _ upd_same
  have l1 : List.lookup f1 ([f1, f2, f3].zip [w, V.ref t, V.ref y]).reverse = some w := by
    show List.lookup f1 [(f3, V.ref y), (f2, V.ref t), (f1, w)] = some w
    rw [look_tl n13, look_tl n12, look_hd]
  have l2 : List.lookup f2 ([f1, f2, f3].zip [w, V.ref t, V.ref y]).reverse = some (.ref t) := by
    show List.lookup f2 [(f3, V.ref y), (f2, V.ref t), (f1, w)] = some (.ref t)
    rw [look_tl n23, look_hd]
  have l3 : List.lookup f3 ([f1, f2, f3].zip [w, V.ref t, V.ref y]).reverse = some (.ref y) := by
    show List.lookup f3 [(f3, V.ref y), (f2, V.ref t), (f1, w)] = some (.ref y)
    rw [look_hd]
  refine ⟨_, rfl, _, rfl, a, _, d, _, w, rfl, hA, hD', M.ex.xf, M.na _ (by simp), l1, _, rfl, a, _, d, _, _, rfl, hA, hD', M.ex.xf, M.na _ (by simp), l2, _, rfl, a, _, d, _, _, rfl, hA, hD', M.ex.xf, M.na _ (by simp), l3, sz3, fun l hl => ?_⟩
  obtain ⟨hA2, hD2⟩ := ex_upd (.lst [w, .ref t, .ref y]) hA hD' hl
  refine ⟨sz2, fun p hp => ?_⟩
  obtain ⟨hA3, hD3⟩ := ex_upd (.tup [.ref a, .ref l]) hA2 hD2 hp
  rw [hD]
  refine h _ a l p (Same.new _ (Same.new _ s1 hl) hp) (.inl ⟨d, _, hx ▸ hA3, hD3⟩) ?_ upd_same
  rw [hm]
  exact ⟨t, y, at_upd _ (at_upd _ t1 hl) hp, at_upd _ (at_upd _ y1 hl) hp, at_upd _ upd_same hp⟩
theorem leaf0 {C : Addr} (hx : C = Cof K k) (hm : many k = 0) (hD : D.rt = Q) (h : Out K H k w Q) :
    tSeq (tAsg (fun σ H Q => ∀ a, H a = none → Q (.ref a) (upd H a (ExO (.ref C) a))) (gName 2)) (tRet (tTup (tCons (tVar 2) (tCons (tLst tNil) tNil)))) D [some v0, some w, u] H := by
  intro a ha
  refine ⟨_, rfl, Nat.zero_le _, fun l hl => ⟨sz2, fun p hp => ?_⟩⟩
  rw [hD]
  refine h _ a l p (Same.new _ (Same.new _ (Same.new _ (Same.refl H) ha) hl) hp) (.inr ?_) ?_ upd_same
  · rw [← hx]
    exact at_upd _ (at_upd _ upd_same hl) hp
  · rw [hm]
    exact at_upd _ upd_same hp
theorem Out.ne {j : Nat} {A B : Prop} (h1 : k = j → A) (h2 : k ≠ j → B) : if decide (V.int (k : Int) = V.int (j : Int)) = true then A else B := by
  refine ite2 (fun q => h1 ?_) (fun q => h2 fun z => q ?_)
  · have z := V.int.inj (of_decide_eq_true q)
    omega
  · rw [z]
    exact decide_eq_true rfl
end

structure Em (K : PySem.W.Frag) (mg : Str → Option Value) (x : Str) : Prop where
  gC : mg x = some (.ref (He.ga K x))
  kC : PySem.W.keepIn K (.ref (He.ga K x)) = true
  exB : PySem.W.excIn K (He.ga K x) He.veBase "ValueError.__new__" = true
theorem em_of {K : PySem.W.Frag} {mg : Str → Option Value} {h : Heap} (X : K.In h) (G : h.Ns mainGlobals mg) (c : SaysX fa fn K) {x : Str} (hx : x ∈ cls) (hy : x ∈ (["AtEnd", "AtStart", "OtherProgram"] : List Str)) : Em K mg x := by
  have h0 := List.all_eq_true.mp (c.fact 0) x (List.mem_append_left _ hx)
  have h3 := exkB_ok (List.all_eq_true.mp (c.fact 3) x hx)
  exact ⟨He.glo_ok X G h0, h3.kC, List.all_eq_true.mp (c.fact 5) x hy⟩
/-- all the classes -/
structure All (P : Program) (w : World) (K : PySem.W.Frag) (mg : Str → Option Value) (base : Heap) : Prop where
  mBadText : Mx P w K mg base "BadText" ["self", "line", "column"] ["line", "column"]
  mBadName : Mx P w K mg base "BadName" ["self", "name"] ["name"]
  mBadNumber : Mx P w K mg base "BadNumber" ["self", "what", "number"] ["what", "number"]
  mBadSize : Mx P w K mg base "BadSize" ["self", "n"] ["n"]
  mBadMany : Mx P w K mg base "BadMany" ["self", "many"] ["many"]
  mBadGrade : Mx P w K mg base "BadGrade" ["self", "grade"] ["grade"]
  mTooMany : Mx P w K mg base "TooMany" ["self", "what", "many", "limit"] ["what", "many", "limit"]
  mTooLarge : Mx P w K mg base "TooLarge" ["self", "most"] ["most"]
  mTooFar : Mx P w K mg base "TooFar" ["self", "what", "limit"] ["what", "limit"]
  mTooLong : Mx P w K mg base "TooLong" ["self", "many"] ["many"]
  mNoLoop : Mx P w K mg base "NoLoop" ["self", "loop"] ["loop"]
  mNoStatement : Mx P w K mg base "NoStatement" ["self", "loop", "statement"] ["loop", "statement"]
  mNoAccess : Mx P w K mg base "NoAccess" ["self", "access"] ["access"]
  mNoArray : Mx P w K mg base "NoArray" ["self", "array"] ["array"]
  mNoWork : Mx P w K mg base "NoWork" ["self", "work"] ["work"]
  mNoNumber : Mx P w K mg base "NoNumber" ["self", "number"] ["number"]
  mNoRead : Mx P w K mg base "NoRead" ["self", "read"] ["read"]
  mNoLag : Mx P w K mg base "NoLag" ["self", "loop"] ["loop"]
  mNotKept : Mx P w K mg base "NotKept" ["self", "n", "work", "read"] ["n", "work", "read"]
  mNotWhole : Mx P w K mg base "NotWhole" ["self", "n", "work"] ["n", "work"]
  mUnlike : Mx P w K mg base "Unlike" ["self", "loop"] ["loop"]
  mDeeper : Mx P w K mg base "Deeper" ["self", "n", "chain"] ["n", "chain"]
  mDeep : Mx P w K mg base "Deep" ["self", "n", "counter"] ["n", "counter"]
  mLong : Mx P w K mg base "Long" ["self", "works"] ["works"]
  mMixing : Mx P w K mg base "Mixing" ["self", "loop", "statement"] ["loop", "statement"]
  mAtEnd : Em K mg "AtEnd"
  mAtStart : Em K mg "AtStart"
  mOtherProgram : Em K mg "OtherProgram"
  mSameArray : Mx P w K mg base "SameArray" ["self", "array"] ["array"]
  mNotSame : Mx P w K mg base "NotSame" ["self", "n", "counter"] ["n", "counter"]
  mTaken : Mx P w K mg base "Taken" ["self", "n", "counter"] ["n", "counter"]
  mEndless : Mx P w K mg base "Endless" ["self", "n"] ["n"]
  mBadDeed : Mx P w K mg base "BadDeed" ["self", "deed"] ["deed"]
  mTakenName : Mx P w K mg base "TakenName" ["self", "name"] ["name"]
  mNoProgram : Mx P w K mg base "NoProgram" ["self", "name"] ["name"]
  mNotInOrder : Mx P w K mg base "NotInOrder" ["self", "n", "first", "second"] ["n", "first", "second"]
  mNotSameFlow : Mx P w K mg base "NotSameFlow" ["self", "n", "work", "read"] ["n", "work", "read"]
section
variable {P : Program} {w : World} {K : PySem.W.Frag} {mg : Str → Option Value} {base : Heap}
theorem sc_law_made_e : FnScope ["_law_k", "_law_worth", "_law_e"] ["_law_k", "_law_worth"] (defScope s_law_made_e) := ⟨rfl, rfl, rfl, by decide +kernel, rfl, by decide +kernel, by decide +kernel⟩
theorem ok_law_made_e {f : Addr} {fd : FuncData} (F : FnP K "_law_made_e" s_law_made_e f fd) (A : All P w K mg base) : FnOk P w K mg base CX0 3 f fd ["_law_k", "_law_worth"] (spMade K 36) := by
  refine F.ok sc_law_made_e (fun vs H Q E h => ?_) (fun cdv Ar outer s H vs Q E hr h => ?_)
  · obtain ⟨k, u, rfl, _⟩ := h
    rfl
  · obtain ⟨k, u, rfl, h1, h2, h⟩ := h
    refine ⟨_, PSs.nox (pss_cons (ps_set (i := 2) sc_law_made_e.nd rfl (Or.inl rfl) (pe_mx A.mNotSameFlow hr (pa_cons (pv 1) (pa_cons (pe_tup (pa_cons (pv 1) (pa_cons pe_int pa_nil))) (pa_cons (pe_lst (pa_cons (pv 1) pa_nil)) pa_nil)))))
      (pss_one (ps_ret (pe_tup (pa_cons (pv 2) (pa_cons (pe_lst (pa_cons (pe_xg (pv 2)) (pa_cons (pe_xg (pv 2)) (pa_cons (pe_xg (pv 2)) pa_nil)))) pa_nil)))))), ?_⟩
    have e : k = 36 := by omega
    subst e
    exact leaf3 A.mNotSameFlow.1 rfl rfl (by decide +kernel) (by decide +kernel) (by decide +kernel) rfl h
theorem sc_law_made_d : FnScope ["_law_k", "_law_worth", "_law_e"] ["_law_k", "_law_worth"] (defScope s_law_made_d) := ⟨rfl, rfl, rfl, by decide +kernel, rfl, by decide +kernel, by decide +kernel⟩
theorem ok_law_made_d {f : Addr} {fd : FuncData} (F : FnP K "_law_made_d" s_law_made_d f fd) (A : All P w K mg base) (dN : Dn P w K mg base 3 "_law_made_e" ["_law_k", "_law_worth"] (spMade K 36)) : FnOk P w K mg base CX0 4 f fd ["_law_k", "_law_worth"] (spMade K 27) := by
  refine F.ok sc_law_made_d (fun vs H Q E h => ?_) (fun cdv Ar outer s H vs Q E hr h => ?_)
  · obtain ⟨k, u, rfl, _⟩ := h
    rfl
  · obtain ⟨k, u, rfl, h1, h2, h⟩ := h
    refine ⟨_, PSs.nox (pss_cons (ps_if (pt_cmpR op_eq (pv 0) pe_int (nomark _)) (pss_cons (ps_set (i := 2) sc_law_made_d.nd rfl (Or.inl rfl) (pe_exc0 PySem.F.excBase_ValueError A.mOtherProgram.exB A.mOtherProgram.gC A.mOtherProgram.kC rfl))
      (pss_one (ps_ret (pe_tup (pa_cons (pv 2) (pa_cons (pe_lst pa_nil) pa_nil)))))) pss_nil)
      (pss_cons (ps_if (pt_cmpR op_eq (pv 0) pe_int (nomark _)) (pss_cons (ps_set (i := 2) sc_law_made_d.nd rfl (Or.inl rfl) (pe_mx A.mSameArray hr (pa_cons (pv 1) pa_nil)))
      (pss_one (ps_ret (pe_tup (pa_cons (pv 2) (pa_cons (pe_lst (pa_cons (pe_xg (pv 2)) pa_nil)) pa_nil)))))) pss_nil)
      (pss_cons (ps_if (pt_cmpR op_eq (pv 0) pe_int (nomark _)) (pss_cons (ps_set (i := 2) sc_law_made_d.nd rfl (Or.inl rfl) (pe_mx A.mNotSame hr (pa_cons (pv 1) (pa_cons (pe_tup (pa_cons (pv 1) (pa_cons pe_int pa_nil))) pa_nil))))
      (pss_one (ps_ret (pe_tup (pa_cons (pv 2) (pa_cons (pe_lst (pa_cons (pe_xg (pv 2)) (pa_cons (pe_xg (pv 2)) pa_nil))) pa_nil)))))) pss_nil)
      (pss_cons (ps_if (pt_cmpR op_eq (pv 0) pe_int (nomark _)) (pss_cons (ps_set (i := 2) sc_law_made_d.nd rfl (Or.inl rfl) (pe_mx A.mTaken hr (pa_cons (pv 1) (pa_cons (pe_tup (pa_cons (pv 1) (pa_cons pe_int pa_nil))) pa_nil))))
      (pss_one (ps_ret (pe_tup (pa_cons (pv 2) (pa_cons (pe_lst (pa_cons (pe_xg (pv 2)) (pa_cons (pe_xg (pv 2)) pa_nil))) pa_nil)))))) pss_nil)
      (pss_cons (ps_if (pt_cmpR op_eq (pv 0) pe_int (nomark _)) (pss_cons (ps_set (i := 2) sc_law_made_d.nd rfl (Or.inl rfl) (pe_mx A.mEndless hr (pa_cons (pv 1) pa_nil)))
      (pss_one (ps_ret (pe_tup (pa_cons (pv 2) (pa_cons (pe_lst (pa_cons (pe_xg (pv 2)) pa_nil)) pa_nil)))))) pss_nil)
      (pss_cons (ps_if (pt_cmpR op_eq (pv 0) pe_int (nomark _)) (pss_cons (ps_set (i := 2) sc_law_made_d.nd rfl (Or.inl rfl) (pe_mx A.mBadDeed hr (pa_cons (pv 1) pa_nil)))
      (pss_one (ps_ret (pe_tup (pa_cons (pv 2) (pa_cons (pe_lst (pa_cons (pe_xg (pv 2)) pa_nil)) pa_nil)))))) pss_nil)
      (pss_cons (ps_if (pt_cmpR op_eq (pv 0) pe_int (nomark _)) (pss_cons (ps_set (i := 2) sc_law_made_d.nd rfl (Or.inl rfl) (pe_mx A.mTakenName hr (pa_cons (pv 1) pa_nil)))
      (pss_one (ps_ret (pe_tup (pa_cons (pv 2) (pa_cons (pe_lst (pa_cons (pe_xg (pv 2)) pa_nil)) pa_nil)))))) pss_nil)
      (pss_cons (ps_if (pt_cmpR op_eq (pv 0) pe_int (nomark _)) (pss_cons (ps_set (i := 2) sc_law_made_d.nd rfl (Or.inl rfl) (pe_mx A.mNoProgram hr (pa_cons (pv 1) pa_nil)))
      (pss_one (ps_ret (pe_tup (pa_cons (pv 2) (pa_cons (pe_lst (pa_cons (pe_xg (pv 2)) pa_nil)) pa_nil)))))) pss_nil)
      (pss_cons (ps_if (pt_cmpR op_eq (pv 0) pe_int (nomark _)) (pss_cons (ps_set (i := 2) sc_law_made_d.nd rfl (Or.inl rfl) (pe_mx A.mNotInOrder hr (pa_cons (pv 1) (pa_cons (pe_tup (pa_cons (pv 1) (pa_cons pe_int pa_nil))) (pa_cons (pe_lst (pa_cons (pv 1) pa_nil)) pa_nil)))))
      (pss_one (ps_ret (pe_tup (pa_cons (pv 2) (pa_cons (pe_lst (pa_cons (pe_xg (pv 2)) (pa_cons (pe_xg (pv 2)) (pa_cons (pe_xg (pv 2)) pa_nil)))) pa_nil)))))) pss_nil)
      (pss_one (ps_ret (pe_dn dN hr (pa_cons (pv 0) (pa_cons (pv 1) pa_nil)))))))))))))), ?_⟩
    refine ⟨_, rfl, rfl, _, rfl, Out.ne (j := 27) (fun q => ?_) (fun n27 => ?_)⟩
    · subst q
      exact leaf0 rfl rfl rfl h
    refine ⟨_, rfl, rfl, _, rfl, Out.ne (j := 28) (fun q => ?_) (fun n28 => ?_)⟩
    · subst q
      exact leaf1 A.mSameArray.1 rfl rfl rfl h
    refine ⟨_, rfl, rfl, _, rfl, Out.ne (j := 29) (fun q => ?_) (fun n29 => ?_)⟩
    · subst q
      exact leaf2 A.mNotSame.1 rfl rfl (by decide +kernel) rfl h
    refine ⟨_, rfl, rfl, _, rfl, Out.ne (j := 30) (fun q => ?_) (fun n30 => ?_)⟩
    · subst q
      exact leaf2 A.mTaken.1 rfl rfl (by decide +kernel) rfl h
    refine ⟨_, rfl, rfl, _, rfl, Out.ne (j := 31) (fun q => ?_) (fun n31 => ?_)⟩
    · subst q
      exact leaf1 A.mEndless.1 rfl rfl rfl h
    refine ⟨_, rfl, rfl, _, rfl, Out.ne (j := 32) (fun q => ?_) (fun n32 => ?_)⟩
    · subst q
      exact leaf1 A.mBadDeed.1 rfl rfl rfl h
    refine ⟨_, rfl, rfl, _, rfl, Out.ne (j := 33) (fun q => ?_) (fun n33 => ?_)⟩
    · subst q
      exact leaf1 A.mTakenName.1 rfl rfl rfl h
    refine ⟨_, rfl, rfl, _, rfl, Out.ne (j := 34) (fun q => ?_) (fun n34 => ?_)⟩
    · subst q
      exact leaf1 A.mNoProgram.1 rfl rfl rfl h
    refine ⟨_, rfl, rfl, _, rfl, Out.ne (j := 35) (fun q => ?_) (fun n35 => ?_)⟩
    · subst q
      exact leaf3 A.mNotInOrder.1 rfl rfl (by decide +kernel) (by decide +kernel) (by decide +kernel) rfl h
    refine ⟨_, rfl, _, rfl, k, u, rfl, by omega, h2, h⟩
theorem sc_law_made_c : FnScope ["_law_k", "_law_worth", "_law_e"] ["_law_k", "_law_worth"] (defScope s_law_made_c) := ⟨rfl, rfl, rfl, by decide +kernel, rfl, by decide +kernel, by decide +kernel⟩
theorem ok_law_made_c {f : Addr} {fd : FuncData} (F : FnP K "_law_made_c" s_law_made_c f fd) (A : All P w K mg base) (dN : Dn P w K mg base 4 "_law_made_d" ["_law_k", "_law_worth"] (spMade K 27)) : FnOk P w K mg base CX0 5 f fd ["_law_k", "_law_worth"] (spMade K 18) := by
  refine F.ok sc_law_made_c (fun vs H Q E h => ?_) (fun cdv Ar outer s H vs Q E hr h => ?_)
  · obtain ⟨k, u, rfl, _⟩ := h
    rfl
  · obtain ⟨k, u, rfl, h1, h2, h⟩ := h
    refine ⟨_, PSs.nox (pss_cons (ps_if (pt_cmpR op_eq (pv 0) pe_int (nomark _)) (pss_cons (ps_set (i := 2) sc_law_made_c.nd rfl (Or.inl rfl) (pe_mx A.mNotKept hr (pa_cons (pv 1) (pa_cons (pe_tup (pa_cons (pv 1) (pa_cons pe_int pa_nil))) (pa_cons (pe_lst (pa_cons (pv 1) pa_nil)) pa_nil)))))
      (pss_one (ps_ret (pe_tup (pa_cons (pv 2) (pa_cons (pe_lst (pa_cons (pe_xg (pv 2)) (pa_cons (pe_xg (pv 2)) (pa_cons (pe_xg (pv 2)) pa_nil)))) pa_nil)))))) pss_nil)
      (pss_cons (ps_if (pt_cmpR op_eq (pv 0) pe_int (nomark _)) (pss_cons (ps_set (i := 2) sc_law_made_c.nd rfl (Or.inl rfl) (pe_mx A.mNotWhole hr (pa_cons (pv 1) (pa_cons (pe_tup (pa_cons (pv 1) (pa_cons pe_int pa_nil))) pa_nil))))
      (pss_one (ps_ret (pe_tup (pa_cons (pv 2) (pa_cons (pe_lst (pa_cons (pe_xg (pv 2)) (pa_cons (pe_xg (pv 2)) pa_nil))) pa_nil)))))) pss_nil)
      (pss_cons (ps_if (pt_cmpR op_eq (pv 0) pe_int (nomark _)) (pss_cons (ps_set (i := 2) sc_law_made_c.nd rfl (Or.inl rfl) (pe_mx A.mUnlike hr (pa_cons (pv 1) pa_nil)))
      (pss_one (ps_ret (pe_tup (pa_cons (pv 2) (pa_cons (pe_lst (pa_cons (pe_xg (pv 2)) pa_nil)) pa_nil)))))) pss_nil)
      (pss_cons (ps_if (pt_cmpR op_eq (pv 0) pe_int (nomark _)) (pss_cons (ps_set (i := 2) sc_law_made_c.nd rfl (Or.inl rfl) (pe_mx A.mDeeper hr (pa_cons (pv 1) (pa_cons (pe_tup (pa_cons (pv 1) (pa_cons pe_int pa_nil))) pa_nil))))
      (pss_one (ps_ret (pe_tup (pa_cons (pv 2) (pa_cons (pe_lst (pa_cons (pe_xg (pv 2)) (pa_cons (pe_xg (pv 2)) pa_nil))) pa_nil)))))) pss_nil)
      (pss_cons (ps_if (pt_cmpR op_eq (pv 0) pe_int (nomark _)) (pss_cons (ps_set (i := 2) sc_law_made_c.nd rfl (Or.inl rfl) (pe_mx A.mDeep hr (pa_cons (pv 1) (pa_cons (pe_tup (pa_cons (pv 1) (pa_cons pe_int pa_nil))) pa_nil))))
      (pss_one (ps_ret (pe_tup (pa_cons (pv 2) (pa_cons (pe_lst (pa_cons (pe_xg (pv 2)) (pa_cons (pe_xg (pv 2)) pa_nil))) pa_nil)))))) pss_nil)
      (pss_cons (ps_if (pt_cmpR op_eq (pv 0) pe_int (nomark _)) (pss_cons (ps_set (i := 2) sc_law_made_c.nd rfl (Or.inl rfl) (pe_mx A.mLong hr (pa_cons (pv 1) pa_nil)))
      (pss_one (ps_ret (pe_tup (pa_cons (pv 2) (pa_cons (pe_lst (pa_cons (pe_xg (pv 2)) pa_nil)) pa_nil)))))) pss_nil)
      (pss_cons (ps_if (pt_cmpR op_eq (pv 0) pe_int (nomark _)) (pss_cons (ps_set (i := 2) sc_law_made_c.nd rfl (Or.inl rfl) (pe_mx A.mMixing hr (pa_cons (pv 1) (pa_cons (pe_tup (pa_cons (pv 1) (pa_cons pe_int pa_nil))) pa_nil))))
      (pss_one (ps_ret (pe_tup (pa_cons (pv 2) (pa_cons (pe_lst (pa_cons (pe_xg (pv 2)) (pa_cons (pe_xg (pv 2)) pa_nil))) pa_nil)))))) pss_nil)
      (pss_cons (ps_if (pt_cmpR op_eq (pv 0) pe_int (nomark _)) (pss_cons (ps_set (i := 2) sc_law_made_c.nd rfl (Or.inl rfl) (pe_exc0 PySem.F.excBase_ValueError A.mAtEnd.exB A.mAtEnd.gC A.mAtEnd.kC rfl))
      (pss_one (ps_ret (pe_tup (pa_cons (pv 2) (pa_cons (pe_lst pa_nil) pa_nil)))))) pss_nil)
      (pss_cons (ps_if (pt_cmpR op_eq (pv 0) pe_int (nomark _)) (pss_cons (ps_set (i := 2) sc_law_made_c.nd rfl (Or.inl rfl) (pe_exc0 PySem.F.excBase_ValueError A.mAtStart.exB A.mAtStart.gC A.mAtStart.kC rfl))
      (pss_one (ps_ret (pe_tup (pa_cons (pv 2) (pa_cons (pe_lst pa_nil) pa_nil)))))) pss_nil)
      (pss_one (ps_ret (pe_dn dN hr (pa_cons (pv 0) (pa_cons (pv 1) pa_nil)))))))))))))), ?_⟩
    refine ⟨_, rfl, rfl, _, rfl, Out.ne (j := 18) (fun q => ?_) (fun n18 => ?_)⟩
    · subst q
      exact leaf3 A.mNotKept.1 rfl rfl (by decide +kernel) (by decide +kernel) (by decide +kernel) rfl h
    refine ⟨_, rfl, rfl, _, rfl, Out.ne (j := 19) (fun q => ?_) (fun n19 => ?_)⟩
    · subst q
      exact leaf2 A.mNotWhole.1 rfl rfl (by decide +kernel) rfl h
    refine ⟨_, rfl, rfl, _, rfl, Out.ne (j := 20) (fun q => ?_) (fun n20 => ?_)⟩
    · subst q
      exact leaf1 A.mUnlike.1 rfl rfl rfl h
    refine ⟨_, rfl, rfl, _, rfl, Out.ne (j := 21) (fun q => ?_) (fun n21 => ?_)⟩
    · subst q
      exact leaf2 A.mDeeper.1 rfl rfl (by decide +kernel) rfl h
    refine ⟨_, rfl, rfl, _, rfl, Out.ne (j := 22) (fun q => ?_) (fun n22 => ?_)⟩
    · subst q
      exact leaf2 A.mDeep.1 rfl rfl (by decide +kernel) rfl h
    refine ⟨_, rfl, rfl, _, rfl, Out.ne (j := 23) (fun q => ?_) (fun n23 => ?_)⟩
    · subst q
      exact leaf1 A.mLong.1 rfl rfl rfl h
    refine ⟨_, rfl, rfl, _, rfl, Out.ne (j := 24) (fun q => ?_) (fun n24 => ?_)⟩
    · subst q
      exact leaf2 A.mMixing.1 rfl rfl (by decide +kernel) rfl h
    refine ⟨_, rfl, rfl, _, rfl, Out.ne (j := 25) (fun q => ?_) (fun n25 => ?_)⟩
    · subst q
      exact leaf0 rfl rfl rfl h
    refine ⟨_, rfl, rfl, _, rfl, Out.ne (j := 26) (fun q => ?_) (fun n26 => ?_)⟩
    · subst q
      exact leaf0 rfl rfl rfl h
    refine ⟨_, rfl, _, rfl, k, u, rfl, by omega, h2, h⟩
theorem sc_law_made_b : FnScope ["_law_k", "_law_worth", "_law_e"] ["_law_k", "_law_worth"] (defScope s_law_made_b) := ⟨rfl, rfl, rfl, by decide +kernel, rfl, by decide +kernel, by decide +kernel⟩
theorem ok_law_made_b {f : Addr} {fd : FuncData} (F : FnP K "_law_made_b" s_law_made_b f fd) (A : All P w K mg base) (dN : Dn P w K mg base 5 "_law_made_c" ["_law_k", "_law_worth"] (spMade K 18)) : FnOk P w K mg base CX0 6 f fd ["_law_k", "_law_worth"] (spMade K 9) := by
  refine F.ok sc_law_made_b (fun vs H Q E h => ?_) (fun cdv Ar outer s H vs Q E hr h => ?_)
  · obtain ⟨k, u, rfl, _⟩ := h
    rfl
  · obtain ⟨k, u, rfl, h1, h2, h⟩ := h
    refine ⟨_, PSs.nox (pss_cons (ps_if (pt_cmpR op_eq (pv 0) pe_int (nomark _)) (pss_cons (ps_set (i := 2) sc_law_made_b.nd rfl (Or.inl rfl) (pe_mx A.mTooLong hr (pa_cons (pv 1) pa_nil)))
      (pss_one (ps_ret (pe_tup (pa_cons (pv 2) (pa_cons (pe_lst (pa_cons (pe_xg (pv 2)) pa_nil)) pa_nil)))))) pss_nil)
      (pss_cons (ps_if (pt_cmpR op_eq (pv 0) pe_int (nomark _)) (pss_cons (ps_set (i := 2) sc_law_made_b.nd rfl (Or.inl rfl) (pe_mx A.mNoLoop hr (pa_cons (pv 1) pa_nil)))
      (pss_one (ps_ret (pe_tup (pa_cons (pv 2) (pa_cons (pe_lst (pa_cons (pe_xg (pv 2)) pa_nil)) pa_nil)))))) pss_nil)
      (pss_cons (ps_if (pt_cmpR op_eq (pv 0) pe_int (nomark _)) (pss_cons (ps_set (i := 2) sc_law_made_b.nd rfl (Or.inl rfl) (pe_mx A.mNoStatement hr (pa_cons (pv 1) (pa_cons (pe_tup (pa_cons (pv 1) (pa_cons pe_int pa_nil))) pa_nil))))
      (pss_one (ps_ret (pe_tup (pa_cons (pv 2) (pa_cons (pe_lst (pa_cons (pe_xg (pv 2)) (pa_cons (pe_xg (pv 2)) pa_nil))) pa_nil)))))) pss_nil)
      (pss_cons (ps_if (pt_cmpR op_eq (pv 0) pe_int (nomark _)) (pss_cons (ps_set (i := 2) sc_law_made_b.nd rfl (Or.inl rfl) (pe_mx A.mNoAccess hr (pa_cons (pv 1) pa_nil)))
      (pss_one (ps_ret (pe_tup (pa_cons (pv 2) (pa_cons (pe_lst (pa_cons (pe_xg (pv 2)) pa_nil)) pa_nil)))))) pss_nil)
      (pss_cons (ps_if (pt_cmpR op_eq (pv 0) pe_int (nomark _)) (pss_cons (ps_set (i := 2) sc_law_made_b.nd rfl (Or.inl rfl) (pe_mx A.mNoArray hr (pa_cons (pv 1) pa_nil)))
      (pss_one (ps_ret (pe_tup (pa_cons (pv 2) (pa_cons (pe_lst (pa_cons (pe_xg (pv 2)) pa_nil)) pa_nil)))))) pss_nil)
      (pss_cons (ps_if (pt_cmpR op_eq (pv 0) pe_int (nomark _)) (pss_cons (ps_set (i := 2) sc_law_made_b.nd rfl (Or.inl rfl) (pe_mx A.mNoWork hr (pa_cons (pv 1) pa_nil)))
      (pss_one (ps_ret (pe_tup (pa_cons (pv 2) (pa_cons (pe_lst (pa_cons (pe_xg (pv 2)) pa_nil)) pa_nil)))))) pss_nil)
      (pss_cons (ps_if (pt_cmpR op_eq (pv 0) pe_int (nomark _)) (pss_cons (ps_set (i := 2) sc_law_made_b.nd rfl (Or.inl rfl) (pe_mx A.mNoNumber hr (pa_cons (pv 1) pa_nil)))
      (pss_one (ps_ret (pe_tup (pa_cons (pv 2) (pa_cons (pe_lst (pa_cons (pe_xg (pv 2)) pa_nil)) pa_nil)))))) pss_nil)
      (pss_cons (ps_if (pt_cmpR op_eq (pv 0) pe_int (nomark _)) (pss_cons (ps_set (i := 2) sc_law_made_b.nd rfl (Or.inl rfl) (pe_mx A.mNoRead hr (pa_cons (pv 1) pa_nil)))
      (pss_one (ps_ret (pe_tup (pa_cons (pv 2) (pa_cons (pe_lst (pa_cons (pe_xg (pv 2)) pa_nil)) pa_nil)))))) pss_nil)
      (pss_cons (ps_if (pt_cmpR op_eq (pv 0) pe_int (nomark _)) (pss_cons (ps_set (i := 2) sc_law_made_b.nd rfl (Or.inl rfl) (pe_mx A.mNoLag hr (pa_cons (pv 1) pa_nil)))
      (pss_one (ps_ret (pe_tup (pa_cons (pv 2) (pa_cons (pe_lst (pa_cons (pe_xg (pv 2)) pa_nil)) pa_nil)))))) pss_nil)
      (pss_one (ps_ret (pe_dn dN hr (pa_cons (pv 0) (pa_cons (pv 1) pa_nil)))))))))))))), ?_⟩
    refine ⟨_, rfl, rfl, _, rfl, Out.ne (j := 9) (fun q => ?_) (fun n9 => ?_)⟩
    · subst q
      exact leaf1 A.mTooLong.1 rfl rfl rfl h
    refine ⟨_, rfl, rfl, _, rfl, Out.ne (j := 10) (fun q => ?_) (fun n10 => ?_)⟩
    · subst q
      exact leaf1 A.mNoLoop.1 rfl rfl rfl h
    refine ⟨_, rfl, rfl, _, rfl, Out.ne (j := 11) (fun q => ?_) (fun n11 => ?_)⟩
    · subst q
      exact leaf2 A.mNoStatement.1 rfl rfl (by decide +kernel) rfl h
    refine ⟨_, rfl, rfl, _, rfl, Out.ne (j := 12) (fun q => ?_) (fun n12 => ?_)⟩
    · subst q
      exact leaf1 A.mNoAccess.1 rfl rfl rfl h
    refine ⟨_, rfl, rfl, _, rfl, Out.ne (j := 13) (fun q => ?_) (fun n13 => ?_)⟩
    · subst q
      exact leaf1 A.mNoArray.1 rfl rfl rfl h
    refine ⟨_, rfl, rfl, _, rfl, Out.ne (j := 14) (fun q => ?_) (fun n14 => ?_)⟩
    · subst q
      exact leaf1 A.mNoWork.1 rfl rfl rfl h
    refine ⟨_, rfl, rfl, _, rfl, Out.ne (j := 15) (fun q => ?_) (fun n15 => ?_)⟩
    · subst q
      exact leaf1 A.mNoNumber.1 rfl rfl rfl h
    refine ⟨_, rfl, rfl, _, rfl, Out.ne (j := 16) (fun q => ?_) (fun n16 => ?_)⟩
    · subst q
      exact leaf1 A.mNoRead.1 rfl rfl rfl h
    refine ⟨_, rfl, rfl, _, rfl, Out.ne (j := 17) (fun q => ?_) (fun n17 => ?_)⟩
    · subst q
      exact leaf1 A.mNoLag.1 rfl rfl rfl h
    refine ⟨_, rfl, _, rfl, k, u, rfl, by omega, h2, h⟩
theorem sc_law_made_a : FnScope ["_law_k", "_law_worth", "_law_e"] ["_law_k", "_law_worth"] (defScope s_law_made_a) := ⟨rfl, rfl, rfl, by decide +kernel, rfl, by decide +kernel, by decide +kernel⟩
theorem ok_law_made_a {f : Addr} {fd : FuncData} (F : FnP K "_law_made_a" s_law_made_a f fd) (A : All P w K mg base) (dN : Dn P w K mg base 6 "_law_made_b" ["_law_k", "_law_worth"] (spMade K 9)) : FnOk P w K mg base CX0 7 f fd ["_law_k", "_law_worth"] (spMade K 0) := by
  refine F.ok sc_law_made_a (fun vs H Q E h => ?_) (fun cdv Ar outer s H vs Q E hr h => ?_)
  · obtain ⟨k, u, rfl, _⟩ := h
    rfl
  · obtain ⟨k, u, rfl, h1, h2, h⟩ := h
    refine ⟨_, PSs.nox (pss_cons (ps_if (pt_cmpR op_eq (pv 0) pe_int (nomark _)) (pss_cons (ps_set (i := 2) sc_law_made_a.nd rfl (Or.inl rfl) (pe_mx A.mBadText hr (pa_cons (pv 1) (pa_cons (pe_tup (pa_cons (pv 1) (pa_cons pe_int pa_nil))) pa_nil))))
      (pss_one (ps_ret (pe_tup (pa_cons (pv 2) (pa_cons (pe_lst (pa_cons (pe_xg (pv 2)) (pa_cons (pe_xg (pv 2)) pa_nil))) pa_nil)))))) pss_nil)
      (pss_cons (ps_if (pt_cmpR op_eq (pv 0) pe_int (nomark _)) (pss_cons (ps_set (i := 2) sc_law_made_a.nd rfl (Or.inl rfl) (pe_mx A.mBadName hr (pa_cons (pv 1) pa_nil)))
      (pss_one (ps_ret (pe_tup (pa_cons (pv 2) (pa_cons (pe_lst (pa_cons (pe_xg (pv 2)) pa_nil)) pa_nil)))))) pss_nil)
      (pss_cons (ps_if (pt_cmpR op_eq (pv 0) pe_int (nomark _)) (pss_cons (ps_set (i := 2) sc_law_made_a.nd rfl (Or.inl rfl) (pe_mx A.mBadNumber hr (pa_cons (pv 1) (pa_cons (pe_tup (pa_cons (pv 1) (pa_cons pe_int pa_nil))) pa_nil))))
      (pss_one (ps_ret (pe_tup (pa_cons (pv 2) (pa_cons (pe_lst (pa_cons (pe_xg (pv 2)) (pa_cons (pe_xg (pv 2)) pa_nil))) pa_nil)))))) pss_nil)
      (pss_cons (ps_if (pt_cmpR op_eq (pv 0) pe_int (nomark _)) (pss_cons (ps_set (i := 2) sc_law_made_a.nd rfl (Or.inl rfl) (pe_mx A.mBadSize hr (pa_cons (pv 1) pa_nil)))
      (pss_one (ps_ret (pe_tup (pa_cons (pv 2) (pa_cons (pe_lst (pa_cons (pe_xg (pv 2)) pa_nil)) pa_nil)))))) pss_nil)
      (pss_cons (ps_if (pt_cmpR op_eq (pv 0) pe_int (nomark _)) (pss_cons (ps_set (i := 2) sc_law_made_a.nd rfl (Or.inl rfl) (pe_mx A.mBadMany hr (pa_cons (pv 1) pa_nil)))
      (pss_one (ps_ret (pe_tup (pa_cons (pv 2) (pa_cons (pe_lst (pa_cons (pe_xg (pv 2)) pa_nil)) pa_nil)))))) pss_nil)
      (pss_cons (ps_if (pt_cmpR op_eq (pv 0) pe_int (nomark _)) (pss_cons (ps_set (i := 2) sc_law_made_a.nd rfl (Or.inl rfl) (pe_mx A.mBadGrade hr (pa_cons (pv 1) pa_nil)))
      (pss_one (ps_ret (pe_tup (pa_cons (pv 2) (pa_cons (pe_lst (pa_cons (pe_xg (pv 2)) pa_nil)) pa_nil)))))) pss_nil)
      (pss_cons (ps_if (pt_cmpR op_eq (pv 0) pe_int (nomark _)) (pss_cons (ps_set (i := 2) sc_law_made_a.nd rfl (Or.inl rfl) (pe_mx A.mTooMany hr (pa_cons (pv 1) (pa_cons (pe_tup (pa_cons (pv 1) (pa_cons pe_int pa_nil))) (pa_cons (pe_lst (pa_cons (pv 1) pa_nil)) pa_nil)))))
      (pss_one (ps_ret (pe_tup (pa_cons (pv 2) (pa_cons (pe_lst (pa_cons (pe_xg (pv 2)) (pa_cons (pe_xg (pv 2)) (pa_cons (pe_xg (pv 2)) pa_nil)))) pa_nil)))))) pss_nil)
      (pss_cons (ps_if (pt_cmpR op_eq (pv 0) pe_int (nomark _)) (pss_cons (ps_set (i := 2) sc_law_made_a.nd rfl (Or.inl rfl) (pe_mx A.mTooLarge hr (pa_cons (pv 1) pa_nil)))
      (pss_one (ps_ret (pe_tup (pa_cons (pv 2) (pa_cons (pe_lst (pa_cons (pe_xg (pv 2)) pa_nil)) pa_nil)))))) pss_nil)
      (pss_cons (ps_if (pt_cmpR op_eq (pv 0) pe_int (nomark _)) (pss_cons (ps_set (i := 2) sc_law_made_a.nd rfl (Or.inl rfl) (pe_mx A.mTooFar hr (pa_cons (pv 1) (pa_cons (pe_tup (pa_cons (pv 1) (pa_cons pe_int pa_nil))) pa_nil))))
      (pss_one (ps_ret (pe_tup (pa_cons (pv 2) (pa_cons (pe_lst (pa_cons (pe_xg (pv 2)) (pa_cons (pe_xg (pv 2)) pa_nil))) pa_nil)))))) pss_nil)
      (pss_one (ps_ret (pe_dn dN hr (pa_cons (pv 0) (pa_cons (pv 1) pa_nil)))))))))))))), ?_⟩
    refine ⟨_, rfl, rfl, _, rfl, Out.ne (j := 0) (fun q => ?_) (fun n0 => ?_)⟩
    · subst q
      exact leaf2 A.mBadText.1 rfl rfl (by decide +kernel) rfl h
    refine ⟨_, rfl, rfl, _, rfl, Out.ne (j := 1) (fun q => ?_) (fun n1 => ?_)⟩
    · subst q
      exact leaf1 A.mBadName.1 rfl rfl rfl h
    refine ⟨_, rfl, rfl, _, rfl, Out.ne (j := 2) (fun q => ?_) (fun n2 => ?_)⟩
    · subst q
      exact leaf2 A.mBadNumber.1 rfl rfl (by decide +kernel) rfl h
    refine ⟨_, rfl, rfl, _, rfl, Out.ne (j := 3) (fun q => ?_) (fun n3 => ?_)⟩
    · subst q
      exact leaf1 A.mBadSize.1 rfl rfl rfl h
    refine ⟨_, rfl, rfl, _, rfl, Out.ne (j := 4) (fun q => ?_) (fun n4 => ?_)⟩
    · subst q
      exact leaf1 A.mBadMany.1 rfl rfl rfl h
    refine ⟨_, rfl, rfl, _, rfl, Out.ne (j := 5) (fun q => ?_) (fun n5 => ?_)⟩
    · subst q
      exact leaf1 A.mBadGrade.1 rfl rfl rfl h
    refine ⟨_, rfl, rfl, _, rfl, Out.ne (j := 6) (fun q => ?_) (fun n6 => ?_)⟩
    · subst q
      exact leaf3 A.mTooMany.1 rfl rfl (by decide +kernel) (by decide +kernel) (by decide +kernel) rfl h
    refine ⟨_, rfl, rfl, _, rfl, Out.ne (j := 7) (fun q => ?_) (fun n7 => ?_)⟩
    · subst q
      exact leaf1 A.mTooLarge.1 rfl rfl rfl h
    refine ⟨_, rfl, rfl, _, rfl, Out.ne (j := 8) (fun q => ?_) (fun n8 => ?_)⟩
    · subst q
      exact leaf2 A.mTooFar.1 rfl rfl (by decide +kernel) rfl h
    refine ⟨_, rfl, _, rfl, k, u, rfl, by omega, h2, h⟩
end
end K00

set_option maxHeartbeats 4000000
namespace K00
open PySem PySem.Spec PyProof.Rows L2 Z
theorem _root_.Z.ExAt.same {H H' : Hp} {a C : Addr} (h : ExAt H a C) (s : Same H H') : ExAt H' a C := by
  rcases h with ⟨d, fs, h1, h2⟩ | h
  · exact .inl ⟨d, fs, s _ _ h1, s _ _ h2⟩
  · exact .inr (s _ _ h)
/-- the names of the top that the law asks -/
structure Tx (K : PySem.W.Frag) (mg : Str → Option Value) : Prop extends Bt mg where
  isi : mg "isinstance" = none
  range : mg "range" = none
  ve : mg "ValueError" = none
  gLE : mg "LoopError" = some (.ref (He.ga K "LoopError"))
  gC : ∀ k, k < 37 → mg (cls.getD k "") = some (.ref (Cof K k))
  ec : ∀ k, k < 37 → ExcC K (Cof K k)
  kit : ∀ k, k < 37 → ∀ j, j < 37 → PySem.W.kitOne K (.ref (Cof K k)) (.ref (Cof K j)) = some (decide (j = k))
  kLE : ∀ k, k < 37 → PySem.W.kitOne K (.ref (Cof K k)) (.ref (He.ga K "LoopError")) = some true
  kVE : ∀ k, k < 37 → PySem.W.kitOne K (.ref (Cof K k)) (.type "ValueError") = some true
def spMany : Sp := fun vs H Q _ => ∃ k : Nat, vs = [.int (k : Int)] ∧ k < 37 ∧ ∀ H', Same H H' → Q (.int (many k)) H'
def kindsOf (k : Nat) : List V := (List.range 37).map fun j => V.bl (decide (j = k))
def spKinds (K : PySem.W.Frag) : Sp := fun vs H Q _ => ∃ (e : Addr) (k : Nat), vs = [.ref e] ∧ k < 37 ∧ ExAt H e (Cof K k) ∧ ∀ H' l, Same H H' → H' l = some (.lst (kindsOf k)) → Q (.ref l) H'
section
variable {P : Program} {w : World} {K : PySem.W.Frag} {mg : Str → Option Value} {base : Heap}
theorem sc_law_many_fields : FnScope ["_law_k", "_law_many"] ["_law_k"] (defScope s_law_many_fields) := ⟨rfl, rfl, rfl, by decide +kernel, rfl, by decide +kernel, by decide +kernel⟩
def manyV0 : List V := many0.map fun (n : Nat) => V.int n
def manyV1 : List V := many1.map fun (n : Nat) => V.int n
theorem many_at : ∀ k, k < 37 → (manyV0 ++ manyV1)[k]? = some (.int (many k)) := by
  intro k hk
  have e : manyV0 ++ manyV1 = (many0 ++ many1).map fun (n : Nat) => V.int n := by
    show manyV0 ++ manyV1 = _
    rw [List.map_append]
    rfl
  have hl : k < (many0 ++ many1).length := hk
  rw [e, List.getElem?_map, List.getElem?_eq_getElem hl]
  show some (V.int ((many0 ++ many1)[k] : Nat)) = some (.int (((many0 ++ many1).getD k 0 : Nat) : Int))
  rw [List.getD_eq_getElem?_getD, List.getElem?_eq_getElem hl]
  rfl
theorem ok_many {f : Addr} {fd : FuncData} (F : FnP K "_law_many_fields" s_law_many_fields f fd) : FnOk P w K mg base CX0 1 f fd ["_law_k"] spMany := by
  refine F.ok sc_law_many_fields (fun vs H Q E h => ?_) (fun cdv A outer s H vs Q E hr h => ?_)
  · obtain ⟨k, rfl, _⟩ := h
    rfl
  · obtain ⟨k, rfl, hk, q⟩ := h
    refine ⟨_, PSs.nox (pss_cons (ps_set (i := 1) sc_law_many_fields.nd rfl (Or.inl rfl) (pe_lst (pa_cons pe_int (pa_cons pe_int (pa_cons pe_int (pa_cons pe_int (pa_cons pe_int (pa_cons pe_int (pa_cons pe_int (pa_cons pe_int (pa_cons pe_int (pa_cons pe_int (pa_cons pe_int (pa_cons pe_int (pa_cons pe_int (pa_cons pe_int (pa_cons pe_int (pa_cons pe_int (pa_cons pe_int (pa_cons pe_int (pa_cons pe_int (pa_cons pe_int pa_nil))))))))))))))))))))))
      (pss_cons (ps_set (i := 1) sc_law_many_fields.nd rfl (Or.inl rfl) (pe_op op_cat (pv 1) (pe_lst (pa_cons pe_int (pa_cons pe_int (pa_cons pe_int (pa_cons pe_int (pa_cons pe_int (pa_cons pe_int (pa_cons pe_int (pa_cons pe_int (pa_cons pe_int (pa_cons pe_int (pa_cons pe_int (pa_cons pe_int (pa_cons pe_int (pa_cons pe_int (pa_cons pe_int (pa_cons pe_int (pa_cons pe_int pa_nil))))))))))))))))))))
      (pss_one (ps_ret (pe_ix ix_list (pv 1) (pv 0) (fun _ _ => rfl)))))), ?_⟩
    refine ⟨(by show 20 ≤ sizeLine; decide), fun l n => ?_⟩
    refine ⟨_, rfl, (by show 17 ≤ sizeLine; decide), fun m nm => ?_⟩
    refine ⟨l, m, manyV0, manyV1, rfl, rfl, at_upd _ upd_same nm, upd_same, (by show 37 ≤ sizeLine; decide), fun r nr => ?_⟩
    refine ⟨_, rfl, _, rfl, r, _, _, _, rfl, rfl, SqL.of upd_same, atI_nat (many_at k hk), ?_⟩
    exact q _ (Same.new _ (Same.new _ (Same.new _ (Same.refl H) n) nm) nr)
theorem sc_law_kinds_of : FnScope ["_law_e", "_law_found"] ["_law_e"] (defScope s_law_kinds_of) := ⟨rfl, rfl, rfl, by decide +kernel, rfl, by decide +kernel, by decide +kernel⟩
theorem ok_kinds {f : Addr} {fd : FuncData} (F : FnP K "_law_kinds_of" s_law_kinds_of f fd) (T : Tx K mg) : FnOk P w K mg base CX0 1 f fd ["_law_e"] (spKinds K) := by
  refine F.ok sc_law_kinds_of (fun vs H Q E h => ?_) (fun cdv A outer s H vs Q E hr h => ?_)
  · obtain ⟨e, k, rfl, _⟩ := h
    rfl
  · obtain ⟨e, k, rfl, hk, hat, q⟩ := h
    refine ⟨_, PSs.nox (pss_cons (ps_set (i := 1) sc_law_kinds_of.nd rfl (Or.inl rfl) (pe_lst pa_nil))
      (pss_cons (ps_set (i := 1) sc_law_kinds_of.nd rfl (Or.inl rfl) (pe_op op_cat (pv 1) (pe_lst (pa_cons (pe_callB call_isX (by rfl) T.isi (by decide +kernel) (pa_cons (pv 0) (pa_cons (pe_glob (v := .ref (Cof K 0)) rfl (T.gC 0 (by decide)) rfl) pa_nil))) (pa_cons (pe_callB call_isX (by rfl) T.isi (by decide +kernel) (pa_cons (pv 0) (pa_cons (pe_glob (v := .ref (Cof K 1)) rfl (T.gC 1 (by decide)) rfl) pa_nil))) (pa_cons (pe_callB call_isX (by rfl) T.isi (by decide +kernel) (pa_cons (pv 0) (pa_cons (pe_glob (v := .ref (Cof K 2)) rfl (T.gC 2 (by decide)) rfl) pa_nil))) pa_nil))))))
      (pss_cons (ps_set (i := 1) sc_law_kinds_of.nd rfl (Or.inl rfl) (pe_op op_cat (pv 1) (pe_lst (pa_cons (pe_callB call_isX (by rfl) T.isi (by decide +kernel) (pa_cons (pv 0) (pa_cons (pe_glob (v := .ref (Cof K 3)) rfl (T.gC 3 (by decide)) rfl) pa_nil))) (pa_cons (pe_callB call_isX (by rfl) T.isi (by decide +kernel) (pa_cons (pv 0) (pa_cons (pe_glob (v := .ref (Cof K 4)) rfl (T.gC 4 (by decide)) rfl) pa_nil))) (pa_cons (pe_callB call_isX (by rfl) T.isi (by decide +kernel) (pa_cons (pv 0) (pa_cons (pe_glob (v := .ref (Cof K 5)) rfl (T.gC 5 (by decide)) rfl) pa_nil))) pa_nil))))))
      (pss_cons (ps_set (i := 1) sc_law_kinds_of.nd rfl (Or.inl rfl) (pe_op op_cat (pv 1) (pe_lst (pa_cons (pe_callB call_isX (by rfl) T.isi (by decide +kernel) (pa_cons (pv 0) (pa_cons (pe_glob (v := .ref (Cof K 6)) rfl (T.gC 6 (by decide)) rfl) pa_nil))) (pa_cons (pe_callB call_isX (by rfl) T.isi (by decide +kernel) (pa_cons (pv 0) (pa_cons (pe_glob (v := .ref (Cof K 7)) rfl (T.gC 7 (by decide)) rfl) pa_nil))) (pa_cons (pe_callB call_isX (by rfl) T.isi (by decide +kernel) (pa_cons (pv 0) (pa_cons (pe_glob (v := .ref (Cof K 8)) rfl (T.gC 8 (by decide)) rfl) pa_nil))) pa_nil))))))
      (pss_cons (ps_set (i := 1) sc_law_kinds_of.nd rfl (Or.inl rfl) (pe_op op_cat (pv 1) (pe_lst (pa_cons (pe_callB call_isX (by rfl) T.isi (by decide +kernel) (pa_cons (pv 0) (pa_cons (pe_glob (v := .ref (Cof K 9)) rfl (T.gC 9 (by decide)) rfl) pa_nil))) (pa_cons (pe_callB call_isX (by rfl) T.isi (by decide +kernel) (pa_cons (pv 0) (pa_cons (pe_glob (v := .ref (Cof K 10)) rfl (T.gC 10 (by decide)) rfl) pa_nil))) (pa_cons (pe_callB call_isX (by rfl) T.isi (by decide +kernel) (pa_cons (pv 0) (pa_cons (pe_glob (v := .ref (Cof K 11)) rfl (T.gC 11 (by decide)) rfl) pa_nil))) pa_nil))))))
      (pss_cons (ps_set (i := 1) sc_law_kinds_of.nd rfl (Or.inl rfl) (pe_op op_cat (pv 1) (pe_lst (pa_cons (pe_callB call_isX (by rfl) T.isi (by decide +kernel) (pa_cons (pv 0) (pa_cons (pe_glob (v := .ref (Cof K 12)) rfl (T.gC 12 (by decide)) rfl) pa_nil))) (pa_cons (pe_callB call_isX (by rfl) T.isi (by decide +kernel) (pa_cons (pv 0) (pa_cons (pe_glob (v := .ref (Cof K 13)) rfl (T.gC 13 (by decide)) rfl) pa_nil))) (pa_cons (pe_callB call_isX (by rfl) T.isi (by decide +kernel) (pa_cons (pv 0) (pa_cons (pe_glob (v := .ref (Cof K 14)) rfl (T.gC 14 (by decide)) rfl) pa_nil))) pa_nil))))))
      (pss_cons (ps_set (i := 1) sc_law_kinds_of.nd rfl (Or.inl rfl) (pe_op op_cat (pv 1) (pe_lst (pa_cons (pe_callB call_isX (by rfl) T.isi (by decide +kernel) (pa_cons (pv 0) (pa_cons (pe_glob (v := .ref (Cof K 15)) rfl (T.gC 15 (by decide)) rfl) pa_nil))) (pa_cons (pe_callB call_isX (by rfl) T.isi (by decide +kernel) (pa_cons (pv 0) (pa_cons (pe_glob (v := .ref (Cof K 16)) rfl (T.gC 16 (by decide)) rfl) pa_nil))) (pa_cons (pe_callB call_isX (by rfl) T.isi (by decide +kernel) (pa_cons (pv 0) (pa_cons (pe_glob (v := .ref (Cof K 17)) rfl (T.gC 17 (by decide)) rfl) pa_nil))) pa_nil))))))
      (pss_cons (ps_set (i := 1) sc_law_kinds_of.nd rfl (Or.inl rfl) (pe_op op_cat (pv 1) (pe_lst (pa_cons (pe_callB call_isX (by rfl) T.isi (by decide +kernel) (pa_cons (pv 0) (pa_cons (pe_glob (v := .ref (Cof K 18)) rfl (T.gC 18 (by decide)) rfl) pa_nil))) (pa_cons (pe_callB call_isX (by rfl) T.isi (by decide +kernel) (pa_cons (pv 0) (pa_cons (pe_glob (v := .ref (Cof K 19)) rfl (T.gC 19 (by decide)) rfl) pa_nil))) (pa_cons (pe_callB call_isX (by rfl) T.isi (by decide +kernel) (pa_cons (pv 0) (pa_cons (pe_glob (v := .ref (Cof K 20)) rfl (T.gC 20 (by decide)) rfl) pa_nil))) pa_nil))))))
      (pss_cons (ps_set (i := 1) sc_law_kinds_of.nd rfl (Or.inl rfl) (pe_op op_cat (pv 1) (pe_lst (pa_cons (pe_callB call_isX (by rfl) T.isi (by decide +kernel) (pa_cons (pv 0) (pa_cons (pe_glob (v := .ref (Cof K 21)) rfl (T.gC 21 (by decide)) rfl) pa_nil))) (pa_cons (pe_callB call_isX (by rfl) T.isi (by decide +kernel) (pa_cons (pv 0) (pa_cons (pe_glob (v := .ref (Cof K 22)) rfl (T.gC 22 (by decide)) rfl) pa_nil))) (pa_cons (pe_callB call_isX (by rfl) T.isi (by decide +kernel) (pa_cons (pv 0) (pa_cons (pe_glob (v := .ref (Cof K 23)) rfl (T.gC 23 (by decide)) rfl) pa_nil))) pa_nil))))))
      (pss_cons (ps_set (i := 1) sc_law_kinds_of.nd rfl (Or.inl rfl) (pe_op op_cat (pv 1) (pe_lst (pa_cons (pe_callB call_isX (by rfl) T.isi (by decide +kernel) (pa_cons (pv 0) (pa_cons (pe_glob (v := .ref (Cof K 24)) rfl (T.gC 24 (by decide)) rfl) pa_nil))) (pa_cons (pe_callB call_isX (by rfl) T.isi (by decide +kernel) (pa_cons (pv 0) (pa_cons (pe_glob (v := .ref (Cof K 25)) rfl (T.gC 25 (by decide)) rfl) pa_nil))) (pa_cons (pe_callB call_isX (by rfl) T.isi (by decide +kernel) (pa_cons (pv 0) (pa_cons (pe_glob (v := .ref (Cof K 26)) rfl (T.gC 26 (by decide)) rfl) pa_nil))) pa_nil))))))
      (pss_cons (ps_set (i := 1) sc_law_kinds_of.nd rfl (Or.inl rfl) (pe_op op_cat (pv 1) (pe_lst (pa_cons (pe_callB call_isX (by rfl) T.isi (by decide +kernel) (pa_cons (pv 0) (pa_cons (pe_glob (v := .ref (Cof K 27)) rfl (T.gC 27 (by decide)) rfl) pa_nil))) (pa_cons (pe_callB call_isX (by rfl) T.isi (by decide +kernel) (pa_cons (pv 0) (pa_cons (pe_glob (v := .ref (Cof K 28)) rfl (T.gC 28 (by decide)) rfl) pa_nil))) (pa_cons (pe_callB call_isX (by rfl) T.isi (by decide +kernel) (pa_cons (pv 0) (pa_cons (pe_glob (v := .ref (Cof K 29)) rfl (T.gC 29 (by decide)) rfl) pa_nil))) pa_nil))))))
      (pss_cons (ps_set (i := 1) sc_law_kinds_of.nd rfl (Or.inl rfl) (pe_op op_cat (pv 1) (pe_lst (pa_cons (pe_callB call_isX (by rfl) T.isi (by decide +kernel) (pa_cons (pv 0) (pa_cons (pe_glob (v := .ref (Cof K 30)) rfl (T.gC 30 (by decide)) rfl) pa_nil))) (pa_cons (pe_callB call_isX (by rfl) T.isi (by decide +kernel) (pa_cons (pv 0) (pa_cons (pe_glob (v := .ref (Cof K 31)) rfl (T.gC 31 (by decide)) rfl) pa_nil))) (pa_cons (pe_callB call_isX (by rfl) T.isi (by decide +kernel) (pa_cons (pv 0) (pa_cons (pe_glob (v := .ref (Cof K 32)) rfl (T.gC 32 (by decide)) rfl) pa_nil))) pa_nil))))))
      (pss_cons (ps_set (i := 1) sc_law_kinds_of.nd rfl (Or.inl rfl) (pe_op op_cat (pv 1) (pe_lst (pa_cons (pe_callB call_isX (by rfl) T.isi (by decide +kernel) (pa_cons (pv 0) (pa_cons (pe_glob (v := .ref (Cof K 33)) rfl (T.gC 33 (by decide)) rfl) pa_nil))) (pa_cons (pe_callB call_isX (by rfl) T.isi (by decide +kernel) (pa_cons (pv 0) (pa_cons (pe_glob (v := .ref (Cof K 34)) rfl (T.gC 34 (by decide)) rfl) pa_nil))) (pa_cons (pe_callB call_isX (by rfl) T.isi (by decide +kernel) (pa_cons (pv 0) (pa_cons (pe_glob (v := .ref (Cof K 35)) rfl (T.gC 35 (by decide)) rfl) pa_nil))) pa_nil))))))
      (pss_cons (ps_set (i := 1) sc_law_kinds_of.nd rfl (Or.inl rfl) (pe_op op_cat (pv 1) (pe_lst (pa_cons (pe_callB call_isX (by rfl) T.isi (by decide +kernel) (pa_cons (pv 0) (pa_cons (pe_glob (v := .ref (Cof K 36)) rfl (T.gC 36 (by decide)) rfl) pa_nil))) pa_nil))))
      (pss_one (ps_ret (pv 1))))))))))))))))), ?_⟩
    refine ⟨Nat.zero_le _, fun l0 n0 => ?_⟩
    have s0 : Same H (upd H l0 (.lst [])) := Same.new _ (Same.refl H) n0
    have c0 : (upd H l0 (.lst [])) l0 = some (.lst []) := upd_same
    obtain ⟨h0, eh0⟩ : ∃ h, h = upd H l0 (.lst []) := ⟨_, rfl⟩
    rw [← eh0] at s0 c0 ⊢
    clear eh0 n0
    -- 0
    have x0 := hat.same s0
    refine ⟨_, rfl, _, rfl, e, Cof K k, _, _, _, rfl, .own _, x0, T.ec k hk, T.kit k hk 0 (by decide), _, rfl, e, Cof K k, _, _, _, rfl, .own _, x0, T.ec k hk, T.kit k hk 1 (by decide), _, rfl, e, Cof K k, _, _, _, rfl, .own _, x0, T.ec k hk, T.kit k hk 2 (by decide), (by show 3 ≤ sizeLine; decide), fun m0 nm0 => ?_⟩
    have d0 := at_upd (.lst [V.bl (decide (0 = k)), V.bl (decide (1 = k)), V.bl (decide (2 = k))]) c0 nm0
    refine ⟨l0, m0, _, _, rfl, rfl, d0, upd_same, (by show 3 ≤ sizeLine; decide), fun l1 n1 => ?_⟩
    obtain ⟨h1, eh1⟩ : ∃ h, h = upd (upd h0 m0 (.lst [V.bl (decide (0 = k)), V.bl (decide (1 = k)), V.bl (decide (2 = k))])) l1 (.lst [V.bl (decide (0 = k)), V.bl (decide (1 = k)), V.bl (decide (2 = k))]) := ⟨_, rfl⟩
    have s1 : Same H h1 := by rw [eh1]; exact Same.new _ (Same.new _ s0 nm0) n1
    have c1 : h1 l1 = some (.lst [V.bl (decide (0 = k)), V.bl (decide (1 = k)), V.bl (decide (2 = k))]) := by rw [eh1]; exact upd_same
    rw [show upd (upd h0 m0 (.lst [V.bl (decide (0 = k)), V.bl (decide (1 = k)), V.bl (decide (2 = k))])) l1 (.lst ([] ++ [V.bl (decide (0 = k)), V.bl (decide (1 = k)), V.bl (decide (2 = k))])) = h1 from eh1.symm]
    clear eh1 n1 nm0 d0 c0 s0 x0
    -- 1
    have x1 := hat.same s1
    refine ⟨_, rfl, _, rfl, e, Cof K k, _, _, _, rfl, .own _, x1, T.ec k hk, T.kit k hk 3 (by decide), _, rfl, e, Cof K k, _, _, _, rfl, .own _, x1, T.ec k hk, T.kit k hk 4 (by decide), _, rfl, e, Cof K k, _, _, _, rfl, .own _, x1, T.ec k hk, T.kit k hk 5 (by decide), (by show 3 ≤ sizeLine; decide), fun m1 nm1 => ?_⟩
    have d1 := at_upd (.lst [V.bl (decide (3 = k)), V.bl (decide (4 = k)), V.bl (decide (5 = k))]) c1 nm1
    refine ⟨l1, m1, _, _, rfl, rfl, d1, upd_same, (by show 6 ≤ sizeLine; decide), fun l2 n2 => ?_⟩
    obtain ⟨h2, eh2⟩ : ∃ h, h = upd (upd h1 m1 (.lst [V.bl (decide (3 = k)), V.bl (decide (4 = k)), V.bl (decide (5 = k))])) l2 (.lst [V.bl (decide (0 = k)), V.bl (decide (1 = k)), V.bl (decide (2 = k)), V.bl (decide (3 = k)), V.bl (decide (4 = k)), V.bl (decide (5 = k))]) := ⟨_, rfl⟩
    have s2 : Same H h2 := by rw [eh2]; exact Same.new _ (Same.new _ s1 nm1) n2
    have c2 : h2 l2 = some (.lst [V.bl (decide (0 = k)), V.bl (decide (1 = k)), V.bl (decide (2 = k)), V.bl (decide (3 = k)), V.bl (decide (4 = k)), V.bl (decide (5 = k))]) := by rw [eh2]; exact upd_same
    rw [show upd (upd h1 m1 (.lst [V.bl (decide (3 = k)), V.bl (decide (4 = k)), V.bl (decide (5 = k))])) l2 (.lst ([V.bl (decide (0 = k)), V.bl (decide (1 = k)), V.bl (decide (2 = k))] ++ [V.bl (decide (3 = k)), V.bl (decide (4 = k)), V.bl (decide (5 = k))])) = h2 from eh2.symm]
    clear eh2 n2 nm1 d1 c1 s1 x1
    -- 2
    have x2 := hat.same s2
    refine ⟨_, rfl, _, rfl, e, Cof K k, _, _, _, rfl, .own _, x2, T.ec k hk, T.kit k hk 6 (by decide), _, rfl, e, Cof K k, _, _, _, rfl, .own _, x2, T.ec k hk, T.kit k hk 7 (by decide), _, rfl, e, Cof K k, _, _, _, rfl, .own _, x2, T.ec k hk, T.kit k hk 8 (by decide), (by show 3 ≤ sizeLine; decide), fun m2 nm2 => ?_⟩
    have d2 := at_upd (.lst [V.bl (decide (6 = k)), V.bl (decide (7 = k)), V.bl (decide (8 = k))]) c2 nm2
    refine ⟨l2, m2, _, _, rfl, rfl, d2, upd_same, (by show 9 ≤ sizeLine; decide), fun l3 n3 => ?_⟩
    obtain ⟨h3, eh3⟩ : ∃ h, h = upd (upd h2 m2 (.lst [V.bl (decide (6 = k)), V.bl (decide (7 = k)), V.bl (decide (8 = k))])) l3 (.lst [V.bl (decide (0 = k)), V.bl (decide (1 = k)), V.bl (decide (2 = k)), V.bl (decide (3 = k)), V.bl (decide (4 = k)), V.bl (decide (5 = k)), V.bl (decide (6 = k)), V.bl (decide (7 = k)), V.bl (decide (8 = k))]) := ⟨_, rfl⟩
    have s3 : Same H h3 := by rw [eh3]; exact Same.new _ (Same.new _ s2 nm2) n3
    have c3 : h3 l3 = some (.lst [V.bl (decide (0 = k)), V.bl (decide (1 = k)), V.bl (decide (2 = k)), V.bl (decide (3 = k)), V.bl (decide (4 = k)), V.bl (decide (5 = k)), V.bl (decide (6 = k)), V.bl (decide (7 = k)), V.bl (decide (8 = k))]) := by rw [eh3]; exact upd_same
    rw [show upd (upd h2 m2 (.lst [V.bl (decide (6 = k)), V.bl (decide (7 = k)), V.bl (decide (8 = k))])) l3 (.lst ([V.bl (decide (0 = k)), V.bl (decide (1 = k)), V.bl (decide (2 = k)), V.bl (decide (3 = k)), V.bl (decide (4 = k)), V.bl (decide (5 = k))] ++ [V.bl (decide (6 = k)), V.bl (decide (7 = k)), V.bl (decide (8 = k))])) = h3 from eh3.symm]
    clear eh3 n3 nm2 d2 c2 s2 x2
    -- 3
    have x3 := hat.same s3
    refine ⟨_, rfl, _, rfl, e, Cof K k, _, _, _, rfl, .own _, x3, T.ec k hk, T.kit k hk 9 (by decide), _, rfl, e, Cof K k, _, _, _, rfl, .own _, x3, T.ec k hk, T.kit k hk 10 (by decide), _, rfl, e, Cof K k, _, _, _, rfl, .own _, x3, T.ec k hk, T.kit k hk 11 (by decide), (by show 3 ≤ sizeLine; decide), fun m3 nm3 => ?_⟩
    have d3 := at_upd (.lst [V.bl (decide (9 = k)), V.bl (decide (10 = k)), V.bl (decide (11 = k))]) c3 nm3
    refine ⟨l3, m3, _, _, rfl, rfl, d3, upd_same, (by show 12 ≤ sizeLine; decide), fun l4 n4 => ?_⟩
    obtain ⟨h4, eh4⟩ : ∃ h, h = upd (upd h3 m3 (.lst [V.bl (decide (9 = k)), V.bl (decide (10 = k)), V.bl (decide (11 = k))])) l4 (.lst [V.bl (decide (0 = k)), V.bl (decide (1 = k)), V.bl (decide (2 = k)), V.bl (decide (3 = k)), V.bl (decide (4 = k)), V.bl (decide (5 = k)), V.bl (decide (6 = k)), V.bl (decide (7 = k)), V.bl (decide (8 = k)), V.bl (decide (9 = k)), V.bl (decide (10 = k)), V.bl (decide (11 = k))]) := ⟨_, rfl⟩
    have s4 : Same H h4 := by rw [eh4]; exact Same.new _ (Same.new _ s3 nm3) n4
    have c4 : h4 l4 = some (.lst [V.bl (decide (0 = k)), V.bl (decide (1 = k)), V.bl (decide (2 = k)), V.bl (decide (3 = k)), V.bl (decide (4 = k)), V.bl (decide (5 = k)), V.bl (decide (6 = k)), V.bl (decide (7 = k)), V.bl (decide (8 = k)), V.bl (decide (9 = k)), V.bl (decide (10 = k)), V.bl (decide (11 = k))]) := by rw [eh4]; exact upd_same
    rw [show upd (upd h3 m3 (.lst [V.bl (decide (9 = k)), V.bl (decide (10 = k)), V.bl (decide (11 = k))])) l4 (.lst ([V.bl (decide (0 = k)), V.bl (decide (1 = k)), V.bl (decide (2 = k)), V.bl (decide (3 = k)), V.bl (decide (4 = k)), V.bl (decide (5 = k)), V.bl (decide (6 = k)), V.bl (decide (7 = k)), V.bl (decide (8 = k))] ++ [V.bl (decide (9 = k)), V.bl (decide (10 = k)), V.bl (decide (11 = k))])) = h4 from eh4.symm]
    clear eh4 n4 nm3 d3 c3 s3 x3
    -- 4
    have x4 := hat.same s4
    refine ⟨_, rfl, _, rfl, e, Cof K k, _, _, _, rfl, .own _, x4, T.ec k hk, T.kit k hk 12 (by decide), _, rfl, e, Cof K k, _, _, _, rfl, .own _, x4, T.ec k hk, T.kit k hk 13 (by decide), _, rfl, e, Cof K k, _, _, _, rfl, .own _, x4, T.ec k hk, T.kit k hk 14 (by decide), (by show 3 ≤ sizeLine; decide), fun m4 nm4 => ?_⟩
    have d4 := at_upd (.lst [V.bl (decide (12 = k)), V.bl (decide (13 = k)), V.bl (decide (14 = k))]) c4 nm4
    refine ⟨l4, m4, _, _, rfl, rfl, d4, upd_same, (by show 15 ≤ sizeLine; decide), fun l5 n5 => ?_⟩
    obtain ⟨h5, eh5⟩ : ∃ h, h = upd (upd h4 m4 (.lst [V.bl (decide (12 = k)), V.bl (decide (13 = k)), V.bl (decide (14 = k))])) l5 (.lst [V.bl (decide (0 = k)), V.bl (decide (1 = k)), V.bl (decide (2 = k)), V.bl (decide (3 = k)), V.bl (decide (4 = k)), V.bl (decide (5 = k)), V.bl (decide (6 = k)), V.bl (decide (7 = k)), V.bl (decide (8 = k)), V.bl (decide (9 = k)), V.bl (decide (10 = k)), V.bl (decide (11 = k)), V.bl (decide (12 = k)), V.bl (decide (13 = k)), V.bl (decide (14 = k))]) := ⟨_, rfl⟩
    have s5 : Same H h5 := by rw [eh5]; exact Same.new _ (Same.new _ s4 nm4) n5
    have c5 : h5 l5 = some (.lst [V.bl (decide (0 = k)), V.bl (decide (1 = k)), V.bl (decide (2 = k)), V.bl (decide (3 = k)), V.bl (decide (4 = k)), V.bl (decide (5 = k)), V.bl (decide (6 = k)), V.bl (decide (7 = k)), V.bl (decide (8 = k)), V.bl (decide (9 = k)), V.bl (decide (10 = k)), V.bl (decide (11 = k)), V.bl (decide (12 = k)), V.bl (decide (13 = k)), V.bl (decide (14 = k))]) := by rw [eh5]; exact upd_same
    rw [show upd (upd h4 m4 (.lst [V.bl (decide (12 = k)), V.bl (decide (13 = k)), V.bl (decide (14 = k))])) l5 (.lst ([V.bl (decide (0 = k)), V.bl (decide (1 = k)), V.bl (decide (2 = k)), V.bl (decide (3 = k)), V.bl (decide (4 = k)), V.bl (decide (5 = k)), V.bl (decide (6 = k)), V.bl (decide (7 = k)), V.bl (decide (8 = k)), V.bl (decide (9 = k)), V.bl (decide (10 = k)), V.bl (decide (11 = k))] ++ [V.bl (decide (12 = k)), V.bl (decide (13 = k)), V.bl (decide (14 = k))])) = h5 from eh5.symm]
    clear eh5 n5 nm4 d4 c4 s4 x4
    -- 5
    have x5 := hat.same s5
    refine ⟨_, rfl, _, rfl, e, Cof K k, _, _, _, rfl, .own _, x5, T.ec k hk, T.kit k hk 15 (by decide), _, rfl, e, Cof K k, _, _, _, rfl, .own _, x5, T.ec k hk, T.kit k hk 16 (by decide), _, rfl, e, Cof K k, _, _, _, rfl, .own _, x5, T.ec k hk, T.kit k hk 17 (by decide), (by show 3 ≤ sizeLine; decide), fun m5 nm5 => ?_⟩
    have d5 := at_upd (.lst [V.bl (decide (15 = k)), V.bl (decide (16 = k)), V.bl (decide (17 = k))]) c5 nm5
    refine ⟨l5, m5, _, _, rfl, rfl, d5, upd_same, (by show 18 ≤ sizeLine; decide), fun l6 n6 => ?_⟩
    obtain ⟨h6, eh6⟩ : ∃ h, h = upd (upd h5 m5 (.lst [V.bl (decide (15 = k)), V.bl (decide (16 = k)), V.bl (decide (17 = k))])) l6 (.lst [V.bl (decide (0 = k)), V.bl (decide (1 = k)), V.bl (decide (2 = k)), V.bl (decide (3 = k)), V.bl (decide (4 = k)), V.bl (decide (5 = k)), V.bl (decide (6 = k)), V.bl (decide (7 = k)), V.bl (decide (8 = k)), V.bl (decide (9 = k)), V.bl (decide (10 = k)), V.bl (decide (11 = k)), V.bl (decide (12 = k)), V.bl (decide (13 = k)), V.bl (decide (14 = k)), V.bl (decide (15 = k)), V.bl (decide (16 = k)), V.bl (decide (17 = k))]) := ⟨_, rfl⟩
    have s6 : Same H h6 := by rw [eh6]; exact Same.new _ (Same.new _ s5 nm5) n6
    have c6 : h6 l6 = some (.lst [V.bl (decide (0 = k)), V.bl (decide (1 = k)), V.bl (decide (2 = k)), V.bl (decide (3 = k)), V.bl (decide (4 = k)), V.bl (decide (5 = k)), V.bl (decide (6 = k)), V.bl (decide (7 = k)), V.bl (decide (8 = k)), V.bl (decide (9 = k)), V.bl (decide (10 = k)), V.bl (decide (11 = k)), V.bl (decide (12 = k)), V.bl (decide (13 = k)), V.bl (decide (14 = k)), V.bl (decide (15 = k)), V.bl (decide (16 = k)), V.bl (decide (17 = k))]) := by rw [eh6]; exact upd_same
    rw [show upd (upd h5 m5 (.lst [V.bl (decide (15 = k)), V.bl (decide (16 = k)), V.bl (decide (17 = k))])) l6 (.lst ([V.bl (decide (0 = k)), V.bl (decide (1 = k)), V.bl (decide (2 = k)), V.bl (decide (3 = k)), V.bl (decide (4 = k)), V.bl (decide (5 = k)), V.bl (decide (6 = k)), V.bl (decide (7 = k)), V.bl (decide (8 = k)), V.bl (decide (9 = k)), V.bl (decide (10 = k)), V.bl (decide (11 = k)), V.bl (decide (12 = k)), V.bl (decide (13 = k)), V.bl (decide (14 = k))] ++ [V.bl (decide (15 = k)), V.bl (decide (16 = k)), V.bl (decide (17 = k))])) = h6 from eh6.symm]
    clear eh6 n6 nm5 d5 c5 s5 x5
    -- 6
    have x6 := hat.same s6
    refine ⟨_, rfl, _, rfl, e, Cof K k, _, _, _, rfl, .own _, x6, T.ec k hk, T.kit k hk 18 (by decide), _, rfl, e, Cof K k, _, _, _, rfl, .own _, x6, T.ec k hk, T.kit k hk 19 (by decide), _, rfl, e, Cof K k, _, _, _, rfl, .own _, x6, T.ec k hk, T.kit k hk 20 (by decide), (by show 3 ≤ sizeLine; decide), fun m6 nm6 => ?_⟩
    have d6 := at_upd (.lst [V.bl (decide (18 = k)), V.bl (decide (19 = k)), V.bl (decide (20 = k))]) c6 nm6
    refine ⟨l6, m6, _, _, rfl, rfl, d6, upd_same, (by show 21 ≤ sizeLine; decide), fun l7 n7 => ?_⟩
    obtain ⟨h7, eh7⟩ : ∃ h, h = upd (upd h6 m6 (.lst [V.bl (decide (18 = k)), V.bl (decide (19 = k)), V.bl (decide (20 = k))])) l7 (.lst [V.bl (decide (0 = k)), V.bl (decide (1 = k)), V.bl (decide (2 = k)), V.bl (decide (3 = k)), V.bl (decide (4 = k)), V.bl (decide (5 = k)), V.bl (decide (6 = k)), V.bl (decide (7 = k)), V.bl (decide (8 = k)), V.bl (decide (9 = k)), V.bl (decide (10 = k)), V.bl (decide (11 = k)), V.bl (decide (12 = k)), V.bl (decide (13 = k)), V.bl (decide (14 = k)), V.bl (decide (15 = k)), V.bl (decide (16 = k)), V.bl (decide (17 = k)), V.bl (decide (18 = k)), V.bl (decide (19 = k)), V.bl (decide (20 = k))]) := ⟨_, rfl⟩
    have s7 : Same H h7 := by rw [eh7]; exact Same.new _ (Same.new _ s6 nm6) n7
    have c7 : h7 l7 = some (.lst [V.bl (decide (0 = k)), V.bl (decide (1 = k)), V.bl (decide (2 = k)), V.bl (decide (3 = k)), V.bl (decide (4 = k)), V.bl (decide (5 = k)), V.bl (decide (6 = k)), V.bl (decide (7 = k)), V.bl (decide (8 = k)), V.bl (decide (9 = k)), V.bl (decide (10 = k)), V.bl (decide (11 = k)), V.bl (decide (12 = k)), V.bl (decide (13 = k)), V.bl (decide (14 = k)), V.bl (decide (15 = k)), V.bl (decide (16 = k)), V.bl (decide (17 = k)), V.bl (decide (18 = k)), V.bl (decide (19 = k)), V.bl (decide (20 = k))]) := by rw [eh7]; exact upd_same
    rw [show upd (upd h6 m6 (.lst [V.bl (decide (18 = k)), V.bl (decide (19 = k)), V.bl (decide (20 = k))])) l7 (.lst ([V.bl (decide (0 = k)), V.bl (decide (1 = k)), V.bl (decide (2 = k)), V.bl (decide (3 = k)), V.bl (decide (4 = k)), V.bl (decide (5 = k)), V.bl (decide (6 = k)), V.bl (decide (7 = k)), V.bl (decide (8 = k)), V.bl (decide (9 = k)), V.bl (decide (10 = k)), V.bl (decide (11 = k)), V.bl (decide (12 = k)), V.bl (decide (13 = k)), V.bl (decide (14 = k)), V.bl (decide (15 = k)), V.bl (decide (16 = k)), V.bl (decide (17 = k))] ++ [V.bl (decide (18 = k)), V.bl (decide (19 = k)), V.bl (decide (20 = k))])) = h7 from eh7.symm]
    clear eh7 n7 nm6 d6 c6 s6 x6
    -- 7
    have x7 := hat.same s7
    refine ⟨_, rfl, _, rfl, e, Cof K k, _, _, _, rfl, .own _, x7, T.ec k hk, T.kit k hk 21 (by decide), _, rfl, e, Cof K k, _, _, _, rfl, .own _, x7, T.ec k hk, T.kit k hk 22 (by decide), _, rfl, e, Cof K k, _, _, _, rfl, .own _, x7, T.ec k hk, T.kit k hk 23 (by decide), (by show 3 ≤ sizeLine; decide), fun m7 nm7 => ?_⟩
    have d7 := at_upd (.lst [V.bl (decide (21 = k)), V.bl (decide (22 = k)), V.bl (decide (23 = k))]) c7 nm7
    refine ⟨l7, m7, _, _, rfl, rfl, d7, upd_same, (by show 24 ≤ sizeLine; decide), fun l8 n8 => ?_⟩
    obtain ⟨h8, eh8⟩ : ∃ h, h = upd (upd h7 m7 (.lst [V.bl (decide (21 = k)), V.bl (decide (22 = k)), V.bl (decide (23 = k))])) l8 (.lst [V.bl (decide (0 = k)), V.bl (decide (1 = k)), V.bl (decide (2 = k)), V.bl (decide (3 = k)), V.bl (decide (4 = k)), V.bl (decide (5 = k)), V.bl (decide (6 = k)), V.bl (decide (7 = k)), V.bl (decide (8 = k)), V.bl (decide (9 = k)), V.bl (decide (10 = k)), V.bl (decide (11 = k)), V.bl (decide (12 = k)), V.bl (decide (13 = k)), V.bl (decide (14 = k)), V.bl (decide (15 = k)), V.bl (decide (16 = k)), V.bl (decide (17 = k)), V.bl (decide (18 = k)), V.bl (decide (19 = k)), V.bl (decide (20 = k)), V.bl (decide (21 = k)), V.bl (decide (22 = k)), V.bl (decide (23 = k))]) := ⟨_, rfl⟩
    have s8 : Same H h8 := by rw [eh8]; exact Same.new _ (Same.new _ s7 nm7) n8
    have c8 : h8 l8 = some (.lst [V.bl (decide (0 = k)), V.bl (decide (1 = k)), V.bl (decide (2 = k)), V.bl (decide (3 = k)), V.bl (decide (4 = k)), V.bl (decide (5 = k)), V.bl (decide (6 = k)), V.bl (decide (7 = k)), V.bl (decide (8 = k)), V.bl (decide (9 = k)), V.bl (decide (10 = k)), V.bl (decide (11 = k)), V.bl (decide (12 = k)), V.bl (decide (13 = k)), V.bl (decide (14 = k)), V.bl (decide (15 = k)), V.bl (decide (16 = k)), V.bl (decide (17 = k)), V.bl (decide (18 = k)), V.bl (decide (19 = k)), V.bl (decide (20 = k)), V.bl (decide (21 = k)), V.bl (decide (22 = k)), V.bl (decide (23 = k))]) := by rw [eh8]; exact upd_same
    rw [show upd (upd h7 m7 (.lst [V.bl (decide (21 = k)), V.bl (decide (22 = k)), V.bl (decide (23 = k))])) l8 (.lst ([V.bl (decide (0 = k)), V.bl (decide (1 = k)), V.bl (decide (2 = k)), V.bl (decide (3 = k)), V.bl (decide (4 = k)), V.bl (decide (5 = k)), V.bl (decide (6 = k)), V.bl (decide (7 = k)), V.bl (decide (8 = k)), V.bl (decide (9 = k)), V.bl (decide (10 = k)), V.bl (decide (11 = k)), V.bl (decide (12 = k)), V.bl (decide (13 = k)), V.bl (decide (14 = k)), V.bl (decide (15 = k)), V.bl (decide (16 = k)), V.bl (decide (17 = k)), V.bl (decide (18 = k)), V.bl (decide (19 = k)), V.bl (decide (20 = k))] ++ [V.bl (decide (21 = k)), V.bl (decide (22 = k)), V.bl (decide (23 = k))])) = h8 from eh8.symm]
    clear eh8 n8 nm7 d7 c7 s7 x7
    -- 8
    have x8 := hat.same s8
    refine ⟨_, rfl, _, rfl, e, Cof K k, _, _, _, rfl, .own _, x8, T.ec k hk, T.kit k hk 24 (by decide), _, rfl, e, Cof K k, _, _, _, rfl, .own _, x8, T.ec k hk, T.kit k hk 25 (by decide), _, rfl, e, Cof K k, _, _, _, rfl, .own _, x8, T.ec k hk, T.kit k hk 26 (by decide), (by show 3 ≤ sizeLine; decide), fun m8 nm8 => ?_⟩
    have d8 := at_upd (.lst [V.bl (decide (24 = k)), V.bl (decide (25 = k)), V.bl (decide (26 = k))]) c8 nm8
    refine ⟨l8, m8, _, _, rfl, rfl, d8, upd_same, (by show 27 ≤ sizeLine; decide), fun l9 n9 => ?_⟩
    obtain ⟨h9, eh9⟩ : ∃ h, h = upd (upd h8 m8 (.lst [V.bl (decide (24 = k)), V.bl (decide (25 = k)), V.bl (decide (26 = k))])) l9 (.lst [V.bl (decide (0 = k)), V.bl (decide (1 = k)), V.bl (decide (2 = k)), V.bl (decide (3 = k)), V.bl (decide (4 = k)), V.bl (decide (5 = k)), V.bl (decide (6 = k)), V.bl (decide (7 = k)), V.bl (decide (8 = k)), V.bl (decide (9 = k)), V.bl (decide (10 = k)), V.bl (decide (11 = k)), V.bl (decide (12 = k)), V.bl (decide (13 = k)), V.bl (decide (14 = k)), V.bl (decide (15 = k)), V.bl (decide (16 = k)), V.bl (decide (17 = k)), V.bl (decide (18 = k)), V.bl (decide (19 = k)), V.bl (decide (20 = k)), V.bl (decide (21 = k)), V.bl (decide (22 = k)), V.bl (decide (23 = k)), V.bl (decide (24 = k)), V.bl (decide (25 = k)), V.bl (decide (26 = k))]) := ⟨_, rfl⟩
    have s9 : Same H h9 := by rw [eh9]; exact Same.new _ (Same.new _ s8 nm8) n9
    have c9 : h9 l9 = some (.lst [V.bl (decide (0 = k)), V.bl (decide (1 = k)), V.bl (decide (2 = k)), V.bl (decide (3 = k)), V.bl (decide (4 = k)), V.bl (decide (5 = k)), V.bl (decide (6 = k)), V.bl (decide (7 = k)), V.bl (decide (8 = k)), V.bl (decide (9 = k)), V.bl (decide (10 = k)), V.bl (decide (11 = k)), V.bl (decide (12 = k)), V.bl (decide (13 = k)), V.bl (decide (14 = k)), V.bl (decide (15 = k)), V.bl (decide (16 = k)), V.bl (decide (17 = k)), V.bl (decide (18 = k)), V.bl (decide (19 = k)), V.bl (decide (20 = k)), V.bl (decide (21 = k)), V.bl (decide (22 = k)), V.bl (decide (23 = k)), V.bl (decide (24 = k)), V.bl (decide (25 = k)), V.bl (decide (26 = k))]) := by rw [eh9]; exact upd_same
    rw [show upd (upd h8 m8 (.lst [V.bl (decide (24 = k)), V.bl (decide (25 = k)), V.bl (decide (26 = k))])) l9 (.lst ([V.bl (decide (0 = k)), V.bl (decide (1 = k)), V.bl (decide (2 = k)), V.bl (decide (3 = k)), V.bl (decide (4 = k)), V.bl (decide (5 = k)), V.bl (decide (6 = k)), V.bl (decide (7 = k)), V.bl (decide (8 = k)), V.bl (decide (9 = k)), V.bl (decide (10 = k)), V.bl (decide (11 = k)), V.bl (decide (12 = k)), V.bl (decide (13 = k)), V.bl (decide (14 = k)), V.bl (decide (15 = k)), V.bl (decide (16 = k)), V.bl (decide (17 = k)), V.bl (decide (18 = k)), V.bl (decide (19 = k)), V.bl (decide (20 = k)), V.bl (decide (21 = k)), V.bl (decide (22 = k)), V.bl (decide (23 = k))] ++ [V.bl (decide (24 = k)), V.bl (decide (25 = k)), V.bl (decide (26 = k))])) = h9 from eh9.symm]
    clear eh9 n9 nm8 d8 c8 s8 x8
    -- 9
    have x9 := hat.same s9
    refine ⟨_, rfl, _, rfl, e, Cof K k, _, _, _, rfl, .own _, x9, T.ec k hk, T.kit k hk 27 (by decide), _, rfl, e, Cof K k, _, _, _, rfl, .own _, x9, T.ec k hk, T.kit k hk 28 (by decide), _, rfl, e, Cof K k, _, _, _, rfl, .own _, x9, T.ec k hk, T.kit k hk 29 (by decide), (by show 3 ≤ sizeLine; decide), fun m9 nm9 => ?_⟩
    have d9 := at_upd (.lst [V.bl (decide (27 = k)), V.bl (decide (28 = k)), V.bl (decide (29 = k))]) c9 nm9
    refine ⟨l9, m9, _, _, rfl, rfl, d9, upd_same, (by show 30 ≤ sizeLine; decide), fun l10 n10 => ?_⟩
    obtain ⟨h10, eh10⟩ : ∃ h, h = upd (upd h9 m9 (.lst [V.bl (decide (27 = k)), V.bl (decide (28 = k)), V.bl (decide (29 = k))])) l10 (.lst [V.bl (decide (0 = k)), V.bl (decide (1 = k)), V.bl (decide (2 = k)), V.bl (decide (3 = k)), V.bl (decide (4 = k)), V.bl (decide (5 = k)), V.bl (decide (6 = k)), V.bl (decide (7 = k)), V.bl (decide (8 = k)), V.bl (decide (9 = k)), V.bl (decide (10 = k)), V.bl (decide (11 = k)), V.bl (decide (12 = k)), V.bl (decide (13 = k)), V.bl (decide (14 = k)), V.bl (decide (15 = k)), V.bl (decide (16 = k)), V.bl (decide (17 = k)), V.bl (decide (18 = k)), V.bl (decide (19 = k)), V.bl (decide (20 = k)), V.bl (decide (21 = k)), V.bl (decide (22 = k)), V.bl (decide (23 = k)), V.bl (decide (24 = k)), V.bl (decide (25 = k)), V.bl (decide (26 = k)), V.bl (decide (27 = k)), V.bl (decide (28 = k)), V.bl (decide (29 = k))]) := ⟨_, rfl⟩
    have s10 : Same H h10 := by rw [eh10]; exact Same.new _ (Same.new _ s9 nm9) n10
    have c10 : h10 l10 = some (.lst [V.bl (decide (0 = k)), V.bl (decide (1 = k)), V.bl (decide (2 = k)), V.bl (decide (3 = k)), V.bl (decide (4 = k)), V.bl (decide (5 = k)), V.bl (decide (6 = k)), V.bl (decide (7 = k)), V.bl (decide (8 = k)), V.bl (decide (9 = k)), V.bl (decide (10 = k)), V.bl (decide (11 = k)), V.bl (decide (12 = k)), V.bl (decide (13 = k)), V.bl (decide (14 = k)), V.bl (decide (15 = k)), V.bl (decide (16 = k)), V.bl (decide (17 = k)), V.bl (decide (18 = k)), V.bl (decide (19 = k)), V.bl (decide (20 = k)), V.bl (decide (21 = k)), V.bl (decide (22 = k)), V.bl (decide (23 = k)), V.bl (decide (24 = k)), V.bl (decide (25 = k)), V.bl (decide (26 = k)), V.bl (decide (27 = k)), V.bl (decide (28 = k)), V.bl (decide (29 = k))]) := by rw [eh10]; exact upd_same
    rw [show upd (upd h9 m9 (.lst [V.bl (decide (27 = k)), V.bl (decide (28 = k)), V.bl (decide (29 = k))])) l10 (.lst ([V.bl (decide (0 = k)), V.bl (decide (1 = k)), V.bl (decide (2 = k)), V.bl (decide (3 = k)), V.bl (decide (4 = k)), V.bl (decide (5 = k)), V.bl (decide (6 = k)), V.bl (decide (7 = k)), V.bl (decide (8 = k)), V.bl (decide (9 = k)), V.bl (decide (10 = k)), V.bl (decide (11 = k)), V.bl (decide (12 = k)), V.bl (decide (13 = k)), V.bl (decide (14 = k)), V.bl (decide (15 = k)), V.bl (decide (16 = k)), V.bl (decide (17 = k)), V.bl (decide (18 = k)), V.bl (decide (19 = k)), V.bl (decide (20 = k)), V.bl (decide (21 = k)), V.bl (decide (22 = k)), V.bl (decide (23 = k)), V.bl (decide (24 = k)), V.bl (decide (25 = k)), V.bl (decide (26 = k))] ++ [V.bl (decide (27 = k)), V.bl (decide (28 = k)), V.bl (decide (29 = k))])) = h10 from eh10.symm]
    clear eh10 n10 nm9 d9 c9 s9 x9
    -- 10
    have x10 := hat.same s10
    refine ⟨_, rfl, _, rfl, e, Cof K k, _, _, _, rfl, .own _, x10, T.ec k hk, T.kit k hk 30 (by decide), _, rfl, e, Cof K k, _, _, _, rfl, .own _, x10, T.ec k hk, T.kit k hk 31 (by decide), _, rfl, e, Cof K k, _, _, _, rfl, .own _, x10, T.ec k hk, T.kit k hk 32 (by decide), (by show 3 ≤ sizeLine; decide), fun m10 nm10 => ?_⟩
    have d10 := at_upd (.lst [V.bl (decide (30 = k)), V.bl (decide (31 = k)), V.bl (decide (32 = k))]) c10 nm10
    refine ⟨l10, m10, _, _, rfl, rfl, d10, upd_same, (by show 33 ≤ sizeLine; decide), fun l11 n11 => ?_⟩
    obtain ⟨h11, eh11⟩ : ∃ h, h = upd (upd h10 m10 (.lst [V.bl (decide (30 = k)), V.bl (decide (31 = k)), V.bl (decide (32 = k))])) l11 (.lst [V.bl (decide (0 = k)), V.bl (decide (1 = k)), V.bl (decide (2 = k)), V.bl (decide (3 = k)), V.bl (decide (4 = k)), V.bl (decide (5 = k)), V.bl (decide (6 = k)), V.bl (decide (7 = k)), V.bl (decide (8 = k)), V.bl (decide (9 = k)), V.bl (decide (10 = k)), V.bl (decide (11 = k)), V.bl (decide (12 = k)), V.bl (decide (13 = k)), V.bl (decide (14 = k)), V.bl (decide (15 = k)), V.bl (decide (16 = k)), V.bl (decide (17 = k)), V.bl (decide (18 = k)), V.bl (decide (19 = k)), V.bl (decide (20 = k)), V.bl (decide (21 = k)), V.bl (decide (22 = k)), V.bl (decide (23 = k)), V.bl (decide (24 = k)), V.bl (decide (25 = k)), V.bl (decide (26 = k)), V.bl (decide (27 = k)), V.bl (decide (28 = k)), V.bl (decide (29 = k)), V.bl (decide (30 = k)), V.bl (decide (31 = k)), V.bl (decide (32 = k))]) := ⟨_, rfl⟩
    have s11 : Same H h11 := by rw [eh11]; exact Same.new _ (Same.new _ s10 nm10) n11
    have c11 : h11 l11 = some (.lst [V.bl (decide (0 = k)), V.bl (decide (1 = k)), V.bl (decide (2 = k)), V.bl (decide (3 = k)), V.bl (decide (4 = k)), V.bl (decide (5 = k)), V.bl (decide (6 = k)), V.bl (decide (7 = k)), V.bl (decide (8 = k)), V.bl (decide (9 = k)), V.bl (decide (10 = k)), V.bl (decide (11 = k)), V.bl (decide (12 = k)), V.bl (decide (13 = k)), V.bl (decide (14 = k)), V.bl (decide (15 = k)), V.bl (decide (16 = k)), V.bl (decide (17 = k)), V.bl (decide (18 = k)), V.bl (decide (19 = k)), V.bl (decide (20 = k)), V.bl (decide (21 = k)), V.bl (decide (22 = k)), V.bl (decide (23 = k)), V.bl (decide (24 = k)), V.bl (decide (25 = k)), V.bl (decide (26 = k)), V.bl (decide (27 = k)), V.bl (decide (28 = k)), V.bl (decide (29 = k)), V.bl (decide (30 = k)), V.bl (decide (31 = k)), V.bl (decide (32 = k))]) := by rw [eh11]; exact upd_same
    rw [show upd (upd h10 m10 (.lst [V.bl (decide (30 = k)), V.bl (decide (31 = k)), V.bl (decide (32 = k))])) l11 (.lst ([V.bl (decide (0 = k)), V.bl (decide (1 = k)), V.bl (decide (2 = k)), V.bl (decide (3 = k)), V.bl (decide (4 = k)), V.bl (decide (5 = k)), V.bl (decide (6 = k)), V.bl (decide (7 = k)), V.bl (decide (8 = k)), V.bl (decide (9 = k)), V.bl (decide (10 = k)), V.bl (decide (11 = k)), V.bl (decide (12 = k)), V.bl (decide (13 = k)), V.bl (decide (14 = k)), V.bl (decide (15 = k)), V.bl (decide (16 = k)), V.bl (decide (17 = k)), V.bl (decide (18 = k)), V.bl (decide (19 = k)), V.bl (decide (20 = k)), V.bl (decide (21 = k)), V.bl (decide (22 = k)), V.bl (decide (23 = k)), V.bl (decide (24 = k)), V.bl (decide (25 = k)), V.bl (decide (26 = k)), V.bl (decide (27 = k)), V.bl (decide (28 = k)), V.bl (decide (29 = k))] ++ [V.bl (decide (30 = k)), V.bl (decide (31 = k)), V.bl (decide (32 = k))])) = h11 from eh11.symm]
    clear eh11 n11 nm10 d10 c10 s10 x10
    -- 11
    have x11 := hat.same s11
    refine ⟨_, rfl, _, rfl, e, Cof K k, _, _, _, rfl, .own _, x11, T.ec k hk, T.kit k hk 33 (by decide), _, rfl, e, Cof K k, _, _, _, rfl, .own _, x11, T.ec k hk, T.kit k hk 34 (by decide), _, rfl, e, Cof K k, _, _, _, rfl, .own _, x11, T.ec k hk, T.kit k hk 35 (by decide), (by show 3 ≤ sizeLine; decide), fun m11 nm11 => ?_⟩
    have d11 := at_upd (.lst [V.bl (decide (33 = k)), V.bl (decide (34 = k)), V.bl (decide (35 = k))]) c11 nm11
    refine ⟨l11, m11, _, _, rfl, rfl, d11, upd_same, (by show 36 ≤ sizeLine; decide), fun l12 n12 => ?_⟩
    obtain ⟨h12, eh12⟩ : ∃ h, h = upd (upd h11 m11 (.lst [V.bl (decide (33 = k)), V.bl (decide (34 = k)), V.bl (decide (35 = k))])) l12 (.lst [V.bl (decide (0 = k)), V.bl (decide (1 = k)), V.bl (decide (2 = k)), V.bl (decide (3 = k)), V.bl (decide (4 = k)), V.bl (decide (5 = k)), V.bl (decide (6 = k)), V.bl (decide (7 = k)), V.bl (decide (8 = k)), V.bl (decide (9 = k)), V.bl (decide (10 = k)), V.bl (decide (11 = k)), V.bl (decide (12 = k)), V.bl (decide (13 = k)), V.bl (decide (14 = k)), V.bl (decide (15 = k)), V.bl (decide (16 = k)), V.bl (decide (17 = k)), V.bl (decide (18 = k)), V.bl (decide (19 = k)), V.bl (decide (20 = k)), V.bl (decide (21 = k)), V.bl (decide (22 = k)), V.bl (decide (23 = k)), V.bl (decide (24 = k)), V.bl (decide (25 = k)), V.bl (decide (26 = k)), V.bl (decide (27 = k)), V.bl (decide (28 = k)), V.bl (decide (29 = k)), V.bl (decide (30 = k)), V.bl (decide (31 = k)), V.bl (decide (32 = k)), V.bl (decide (33 = k)), V.bl (decide (34 = k)), V.bl (decide (35 = k))]) := ⟨_, rfl⟩
    have s12 : Same H h12 := by rw [eh12]; exact Same.new _ (Same.new _ s11 nm11) n12
    have c12 : h12 l12 = some (.lst [V.bl (decide (0 = k)), V.bl (decide (1 = k)), V.bl (decide (2 = k)), V.bl (decide (3 = k)), V.bl (decide (4 = k)), V.bl (decide (5 = k)), V.bl (decide (6 = k)), V.bl (decide (7 = k)), V.bl (decide (8 = k)), V.bl (decide (9 = k)), V.bl (decide (10 = k)), V.bl (decide (11 = k)), V.bl (decide (12 = k)), V.bl (decide (13 = k)), V.bl (decide (14 = k)), V.bl (decide (15 = k)), V.bl (decide (16 = k)), V.bl (decide (17 = k)), V.bl (decide (18 = k)), V.bl (decide (19 = k)), V.bl (decide (20 = k)), V.bl (decide (21 = k)), V.bl (decide (22 = k)), V.bl (decide (23 = k)), V.bl (decide (24 = k)), V.bl (decide (25 = k)), V.bl (decide (26 = k)), V.bl (decide (27 = k)), V.bl (decide (28 = k)), V.bl (decide (29 = k)), V.bl (decide (30 = k)), V.bl (decide (31 = k)), V.bl (decide (32 = k)), V.bl (decide (33 = k)), V.bl (decide (34 = k)), V.bl (decide (35 = k))]) := by rw [eh12]; exact upd_same
    rw [show upd (upd h11 m11 (.lst [V.bl (decide (33 = k)), V.bl (decide (34 = k)), V.bl (decide (35 = k))])) l12 (.lst ([V.bl (decide (0 = k)), V.bl (decide (1 = k)), V.bl (decide (2 = k)), V.bl (decide (3 = k)), V.bl (decide (4 = k)), V.bl (decide (5 = k)), V.bl (decide (6 = k)), V.bl (decide (7 = k)), V.bl (decide (8 = k)), V.bl (decide (9 = k)), V.bl (decide (10 = k)), V.bl (decide (11 = k)), V.bl (decide (12 = k)), V.bl (decide (13 = k)), V.bl (decide (14 = k)), V.bl (decide (15 = k)), V.bl (decide (16 = k)), V.bl (decide (17 = k)), V.bl (decide (18 = k)), V.bl (decide (19 = k)), V.bl (decide (20 = k)), V.bl (decide (21 = k)), V.bl (decide (22 = k)), V.bl (decide (23 = k)), V.bl (decide (24 = k)), V.bl (decide (25 = k)), V.bl (decide (26 = k)), V.bl (decide (27 = k)), V.bl (decide (28 = k)), V.bl (decide (29 = k)), V.bl (decide (30 = k)), V.bl (decide (31 = k)), V.bl (decide (32 = k))] ++ [V.bl (decide (33 = k)), V.bl (decide (34 = k)), V.bl (decide (35 = k))])) = h12 from eh12.symm]
    clear eh12 n12 nm11 d11 c11 s11 x11
    -- 12
    have x12 := hat.same s12
    refine ⟨_, rfl, _, rfl, e, Cof K k, _, _, _, rfl, .own _, x12, T.ec k hk, T.kit k hk 36 (by decide), (by show 1 ≤ sizeLine; decide), fun m12 nm12 => ?_⟩
    have d12 := at_upd (.lst [V.bl (decide (36 = k))]) c12 nm12
    refine ⟨l12, m12, _, _, rfl, rfl, d12, upd_same, (by show 37 ≤ sizeLine; decide), fun l13 n13 => ?_⟩
    obtain ⟨h13, eh13⟩ : ∃ h, h = upd (upd h12 m12 (.lst [V.bl (decide (36 = k))])) l13 (.lst [V.bl (decide (0 = k)), V.bl (decide (1 = k)), V.bl (decide (2 = k)), V.bl (decide (3 = k)), V.bl (decide (4 = k)), V.bl (decide (5 = k)), V.bl (decide (6 = k)), V.bl (decide (7 = k)), V.bl (decide (8 = k)), V.bl (decide (9 = k)), V.bl (decide (10 = k)), V.bl (decide (11 = k)), V.bl (decide (12 = k)), V.bl (decide (13 = k)), V.bl (decide (14 = k)), V.bl (decide (15 = k)), V.bl (decide (16 = k)), V.bl (decide (17 = k)), V.bl (decide (18 = k)), V.bl (decide (19 = k)), V.bl (decide (20 = k)), V.bl (decide (21 = k)), V.bl (decide (22 = k)), V.bl (decide (23 = k)), V.bl (decide (24 = k)), V.bl (decide (25 = k)), V.bl (decide (26 = k)), V.bl (decide (27 = k)), V.bl (decide (28 = k)), V.bl (decide (29 = k)), V.bl (decide (30 = k)), V.bl (decide (31 = k)), V.bl (decide (32 = k)), V.bl (decide (33 = k)), V.bl (decide (34 = k)), V.bl (decide (35 = k)), V.bl (decide (36 = k))]) := ⟨_, rfl⟩
    have s13 : Same H h13 := by rw [eh13]; exact Same.new _ (Same.new _ s12 nm12) n13
    have c13 : h13 l13 = some (.lst [V.bl (decide (0 = k)), V.bl (decide (1 = k)), V.bl (decide (2 = k)), V.bl (decide (3 = k)), V.bl (decide (4 = k)), V.bl (decide (5 = k)), V.bl (decide (6 = k)), V.bl (decide (7 = k)), V.bl (decide (8 = k)), V.bl (decide (9 = k)), V.bl (decide (10 = k)), V.bl (decide (11 = k)), V.bl (decide (12 = k)), V.bl (decide (13 = k)), V.bl (decide (14 = k)), V.bl (decide (15 = k)), V.bl (decide (16 = k)), V.bl (decide (17 = k)), V.bl (decide (18 = k)), V.bl (decide (19 = k)), V.bl (decide (20 = k)), V.bl (decide (21 = k)), V.bl (decide (22 = k)), V.bl (decide (23 = k)), V.bl (decide (24 = k)), V.bl (decide (25 = k)), V.bl (decide (26 = k)), V.bl (decide (27 = k)), V.bl (decide (28 = k)), V.bl (decide (29 = k)), V.bl (decide (30 = k)), V.bl (decide (31 = k)), V.bl (decide (32 = k)), V.bl (decide (33 = k)), V.bl (decide (34 = k)), V.bl (decide (35 = k)), V.bl (decide (36 = k))]) := by rw [eh13]; exact upd_same
    rw [show upd (upd h12 m12 (.lst [V.bl (decide (36 = k))])) l13 (.lst ([V.bl (decide (0 = k)), V.bl (decide (1 = k)), V.bl (decide (2 = k)), V.bl (decide (3 = k)), V.bl (decide (4 = k)), V.bl (decide (5 = k)), V.bl (decide (6 = k)), V.bl (decide (7 = k)), V.bl (decide (8 = k)), V.bl (decide (9 = k)), V.bl (decide (10 = k)), V.bl (decide (11 = k)), V.bl (decide (12 = k)), V.bl (decide (13 = k)), V.bl (decide (14 = k)), V.bl (decide (15 = k)), V.bl (decide (16 = k)), V.bl (decide (17 = k)), V.bl (decide (18 = k)), V.bl (decide (19 = k)), V.bl (decide (20 = k)), V.bl (decide (21 = k)), V.bl (decide (22 = k)), V.bl (decide (23 = k)), V.bl (decide (24 = k)), V.bl (decide (25 = k)), V.bl (decide (26 = k)), V.bl (decide (27 = k)), V.bl (decide (28 = k)), V.bl (decide (29 = k)), V.bl (decide (30 = k)), V.bl (decide (31 = k)), V.bl (decide (32 = k)), V.bl (decide (33 = k)), V.bl (decide (34 = k)), V.bl (decide (35 = k))] ++ [V.bl (decide (36 = k))])) = h13 from eh13.symm]
    clear eh13 n13 nm12 d12 c12 s12 x12
    refine ⟨_, rfl, ?_⟩
    exact q _ l13 s13 c13
end
end K00

set_option maxHeartbeats 4000000
namespace K00
open PySem PySem.Spec PyProof.Rows L2 Z
def spLaw (K : PySem.W.Frag) : Sp := fun vs H Q _ => ∃ (a : Addr) (ns : List Int), vs = [.ref a] ∧ SqL K H a (ns.map V.int) ∧ ns.length ≤ 63 ∧ ∀ H', Q (.bl true) H'
/-- what a drawn value is, as data -/
inductive Wo (H : Hp) : V → PyData → Prop where
  | non : Wo H .non .none
  | bl (b : Bool) : Wo H (.bl b) (.bool b)
  | int (i : Int) : Wo H (.int i) (.int i)
  | str (x : Str) (h : SeqAt.shaped (.str x) = true) : Wo H (.str x) (.str x)
  | tup (t : Addr) (h : H t = some (.tup [.str "a", .int 1])) : Wo H (.ref t) (.tuple [.str "a", .int 1])
theorem Wo.same {H H' : Hp} {v : V} {d : PyData} (h : Wo H v d) (s : Same H H') : Wo H' v d := by
  cases h with
  | non => exact .non
  | bl b => exact .bl b
  | int i => exact .int i
  | str x h => exact .str x h
  | tup t h => exact .tup t (s _ _ h)
theorem Wo.dp {K : PySem.W.Frag} {H : Hp} {v : V} {d : PyData} (h : Wo H v d) : Dp K H v d := by
  cases h with
  | non => exact .non
  | bl b => exact .bl b
  | int i => exact .int i
  | str x h => exact .str x
  | tup t h => exact .tup (SqT.of h) (.cons (.str _) (.cons (.int _) .nil))
theorem Wo.shape {H : Hp} {v : V} {d : PyData} (h : Wo H v d) : d.canLay0 = true ∧ d.depth ≤ 1 := by
  cases h with
  | non => exact ⟨by simp [PyData.canLay0], by simp [PyData.depth]⟩
  | bl b => exact ⟨by simp [PyData.canLay0], by simp [PyData.depth]⟩
  | int i => exact ⟨by simp [PyData.canLay0], by simp [PyData.depth]⟩
  | str x h => exact ⟨(SeqAt.canLay_of_shaped h), by simp [PyData.depth]⟩
  | tup t h => exact ⟨by decide +kernel, by decide +kernel⟩
theorem wo_of {H : Hp} {v v0 : V} (e : some v0 = some v) (h : ∃ d, Wo H v0 d) : ∃ d, Wo H v d := (Option.some.inj e) ▸ h
theorem yes_of {σ : L2.St} {H : Hp} {A B : Hp → Prop} (h : A H) : tYes σ H (fun b H3 => if b = true then A H3 else B H3) := by
  show if true = true then A H else B H
  rw [if_pos rfl]
  exact h
/-- the fields as data -/
def dts (d : PyData) (n : Nat) : List PyData := [d, .tuple [d, .int 1], .list [d]].take n
theorem dts_shape {d : PyData} (h : d.canLay0 = true ∧ d.depth ≤ 1) (n : Nat) : SeqAt.shaped (.list (dts d n)) = true := by
  obtain ⟨h1, h2⟩ := h
  have a : PyData.canLayAll0 (dts d n) = true := by
    unfold dts
    match n with
    | 0 => simp [PyData.canLayAll0]
    | 1 => simp [PyData.canLayAll0, h1]
    | 2 => simp [PyData.canLayAll0, PyData.canLay0, h1]
    | n + 3 => simp [PyData.canLayAll0, PyData.canLay0, h1]
  have b : PyData.depthAll (dts d n) ≤ 60 := by
    unfold dts
    match n with
    | 0 => simp [PyData.depthAll]
    | 1 => simp [PyData.depthAll]; omega
    | 2 => simp [PyData.depthAll, PyData.depth]; omega
    | n + 3 => simp [PyData.depthAll, PyData.depth]; omega
  have e1 : PyData.canLay0 (.list (dts d n)) = true := by
    simp only [PyData.canLay0]
    exact a
  have e2 : PyData.depth (.list (dts d n)) ≤ 64 := by
    simp only [PyData.depth]
    omega
  unfold SeqAt.shaped
  rw [e1, decide_eq_true e2]
  rfl
theorem kept_dp {K : PySem.W.Frag} {H : Hp} {v : V} {d : PyData} {l : Addr} {n : Nat} (h : KeptAt H n v l) (hw : Wo H v d) : Dp K H (.ref l) (.list (dts d n)) := by
  unfold KeptAt at h
  unfold dts
  match n, h with
  | 0, h => exact .lst (SqL.of h) .nil
  | 1, h => exact .lst (SqL.of h) (.cons hw.dp .nil)
  | 2, h =>
    obtain ⟨t, h1, h2⟩ := h
    exact .lst (SqL.of h2) (.cons hw.dp (.cons (.tup (SqT.of h1) (.cons hw.dp (.cons (.int _) .nil))) .nil))
  | n + 3, h =>
    obtain ⟨t, x, h1, h2, h3⟩ := h
    have e : ([d, .tuple [d, .int 1], .list [d]] : List PyData).take (n + 3) = [d, .tuple [d, .int 1], .list [d]] := by simp
    rw [e]
    exact .lst (SqL.of h3) (.cons hw.dp (.cons (.tup (SqT.of h1) (.cons hw.dp (.cons (.int _) .nil))) (.cons (.lst (SqL.of h2) (.cons hw.dp .nil)) .nil)))
theorem cut_take {xs : List V} (n : Nat) : cutV xs none (some (n : Int)) = xs.take n := by
  unfold cutV
  rw [HT.sIx_none, HT.sIx_nat, List.drop_zero, Nat.sub_zero]
  rcases Nat.le_total n xs.length with h | h
  · rw [Nat.min_eq_left h]
  · rw [Nat.min_eq_right h, List.take_of_length_le h, List.take_of_length_le (Nat.le_refl _)]
theorem slice_dp {K : PySem.W.Frag} {H : Hp} {v : V} {d : PyData} {l t x : Addr} {n : Nat} (h : H l = some (.lst (cutV [v, .ref t, .ref x] none (some (n : Int))))) (ht : H t = some (.tup [v, .int 1])) (hx : H x = some (.lst [v])) (hw : Wo H v d) :
    Dp K H (.ref l) (.list (dts d n)) := by
  rw [cut_take] at h
  unfold dts
  match n, h with
  | 0, h => exact .lst (SqL.of h) .nil
  | 1, h => exact .lst (SqL.of h) (.cons hw.dp .nil)
  | 2, h => exact .lst (SqL.of h) (.cons hw.dp (.cons (.tup (SqT.of ht) (.cons hw.dp (.cons (.int _) .nil))) .nil))
  | n + 3, h =>
    have e : ([d, .tuple [d, .int 1], .list [d]] : List PyData).take (n + 3) = [d, .tuple [d, .int 1], .list [d]] := by simp
    have e2 : ([v, .ref t, .ref x] : List V).take (n + 3) = [v, .ref t, .ref x] := by simp
    rw [e]
    rw [e2] at h
    exact .lst (SqL.of h) (.cons hw.dp (.cons (.tup (SqT.of ht) (.cons hw.dp (.cons (.int _) .nil))) (.cons (.lst (SqL.of hx) (.cons hw.dp .nil)) .nil)))
theorem dpAll_bools {K : PySem.W.Frag} {H : Hp} : ∀ bs : List Bool, DpAll K H (bs.map V.bl) (bs.map PyData.bool)
  | [] => .nil
  | _ :: bs => .cons (.bl _) (dpAll_bools bs)
theorem canLay_bools : ∀ bs : List Bool, PyData.canLayAll0 (bs.map PyData.bool) = true
  | [] => by simp [PyData.canLayAll0]
  | _ :: bs => by simp [PyData.canLayAll0, PyData.canLay0, canLay_bools bs]
theorem depth_bools : ∀ bs : List Bool, PyData.depthAll (bs.map PyData.bool) = 0
  | [] => by simp [PyData.depthAll]
  | _ :: bs => by simp [PyData.depthAll, PyData.depth, depth_bools bs]
theorem shaped_bools (bs : List Bool) : SeqAt.shaped (.list (bs.map PyData.bool)) = true := by
  simp [SeqAt.shaped, PyData.canLay0, canLay_bools, PyData.depth, depth_bools]
def kb (k n : Nat) : List Bool := (List.range n).map fun j => decide (j = k)
theorem kindsOf_eq (k : Nat) : kindsOf k = (kb k 37).map V.bl := by
  unfold kindsOf kb
  rw [List.map_map]
  rfl
theorem eq_self {d : PyData} (h : SeqAt.shaped d = true) : (!PyData.eqv d d) = false := by
  rw [SeqAt.eqv_refl d (SeqAt.canLay_of_shaped h)]
  rfl
section
variable {P : Program} {w : World} {K : PySem.W.Frag} {mg : Str → Option Value} {base : Heap}
theorem sc_law : FnScope ["_law_script", "_law_pen_here", "_law_k", "_law_worth", "_law_error", "_law_kept", "_law_j"] ["_law_script"] (defScope s_law) := ⟨rfl, rfl, rfl, by decide +kernel, rfl, by decide +kernel, by decide +kernel⟩
theorem ok_law {f : Addr} {fd : FuncData} (F : FnP K "law" s_law f fd) (T : Tx K mg) (dPen : Dn P w K mg base 1 "_law_pen" ["_law_script"] (spPen K)) (dPick : Dn P w K mg base 2 "_law_pick" ["_law_pen_here", "_law_some"] spPick)
    (dA : Dn P w K mg base 7 "_law_made_a" ["_law_k", "_law_worth"] (spMade K 0)) (dMany : Dn P w K mg base 1 "_law_many_fields" ["_law_k"] spMany) (dKinds : Dn P w K mg base 1 "_law_kinds_of" ["_law_e"] (spKinds K)) :
    FnOk P w K mg base CX0 8 f fd ["_law_script"] (spLaw K) := by
  refine F.ok sc_law (fun vs H Q E h => ?_) (fun cdv A outer s H vs Q E hr h => ?_)
  · obtain ⟨a, ns, rfl, _⟩ := h
    rfl
  · obtain ⟨a, ns, rfl, hS, hl, k⟩ := h
    refine ⟨_, PSs.nox (pss_cons (ps_set (i := 1) sc_law.nd rfl (Or.inl rfl) (pe_dn dPen hr (pa_cons (pv 0) pa_nil)))
      (pss_cons (ps_for PassesOwn.never rfl (pi_range1 (by rfl) T.range (pa_cons pe_int pa_nil)) (pg_name (i := 2) sc_law.nd rfl (.inr rfl)) (pss_cons (ps_set (i := 3) sc_law.nd rfl (Or.inl rfl) (pe_dn dPick hr (pa_cons (pv 1) (pa_cons (pe_lst (pa_cons pe_non (pa_cons pe_str (pa_cons (pe_un un_neg pe_int) (pa_cons (pe_op op_pow pe_int pe_int) (pa_cons (pe_tup (pa_cons pe_str (pa_cons pe_int pa_nil))) (pa_cons pe_bl (pa_cons pe_int pa_nil)))))))) pa_nil))))
      (pss_cons (ps_asg (pe_dn dA hr (pa_cons (pv 2) (pa_cons (pv 3) pa_nil))) (pg_tup (by rfl) (pgs_cons (pg_name (i := 4) sc_law.nd rfl (.inl rfl)) (pgs_cons (pg_name (i := 5) sc_law.nd rfl (.inl rfl)) pgs_nil))))
      (pss_cons (ps_if (pt_cmpR (op_neD hr.units) (pv 5) (pe_slice sl_list (pe_lst (pa_cons (pv 3) (pa_cons (pe_tup (pa_cons (pv 3) (pa_cons pe_int pa_nil))) (pa_cons (pe_lst (pa_cons (pv 3) pa_nil)) pa_nil)))) po_none (po_some (pe_dn dMany hr (pa_cons (pv 2) pa_nil)))) (nomark _)) (pss_one (ps_ret pe_bl)) pss_nil)
      (pss_cons (ps_if (PW.pt (pw_or (pt_not (pt_val (pe_callB call_isX (by rfl) T.isi (by decide +kernel) (pa_cons (pv 4) (pa_cons (pe_glob (v := .ref (He.ga K "LoopError")) rfl T.gLE rfl) pa_nil))))) (pw_or1 (pt_not (pt_val (pe_callB call_isX (by rfl) T.isi (by decide +kernel) (pa_cons (pv 4) (pa_cons (pe_bltn (v := .ty "ValueError") (by rfl) T.ve (by decide +kernel) rfl) pa_nil)))))))) (pss_one (ps_ret pe_bl)) pss_nil)
      (pss_one (ps_if (pt_cmpR (op_neD hr.units) (pe_dn dKinds hr (pa_cons (pv 4) pa_nil)) (pe_lc (own := [("_law_j", 6)]) (g := gName 6) (tt := tYes) rfl sc_law.nd (pi_range1 (by rfl) T.range (pa_cons pe_int pa_nil)) (blkOk_by (N := ["_law_script", "_law_pen_here", "_law_k", "_law_worth", "_law_error", "_law_kept", "_law_j"]) (sc := defScope s_law) (by decide +kernel)) (fun _ _ _ _ _ => (pg_name (i := 6) sc_law.nd rfl (.inl rfl))) (fun _ _ _ _ _ => pts_nil) (fun _ _ _ _ _ => (pe_cmpR op_eq (pv 6) (pv 2) (nomark _)))) (nomark _)) (pss_one (ps_ret pe_bl)) pss_nil)))))))
      (pss_one (ps_ret pe_bl)))), ?_⟩
    refine ⟨_, rfl, a, ns, rfl, hS, hl, fun H1 p s1 hp hP => ?_⟩
    refine ⟨37, rfl, by decide, by decide, for_range (lo := 0) (n := 37) (fun i σ H' => ∃ v2 v3 v4 v5 v6 : Option V, σ = [some (.ref a), some (.ref p), v2, v3, v4, v5, v6] ∧ Pen H' p i) ⟨_, _, _, _, _, rfl, hP⟩ ?_ ?_⟩
    · rintro i σ H2 hi ⟨v2, v3, v4, v5, v6, rfl, hP2⟩
      have e0 : (0 : Int) + ((i : Nat) : Int) = (i : Int) := Int.zero_add _
      rw [e0]
      refine ⟨_, rfl, _, rfl, _, _, rfl, rfl, ⟨by decide, by decide, by decide⟩, sz2, fun t ht => ⟨(by show 7 ≤ sizeLine; decide), fun l hl2 => ?_⟩⟩
      have hPt := hP2.same (Same.new (.tup [.str "a", .int 1]) (Same.refl H2) ht)
      have hPl : ∀ {o : HO}, Pen (upd (upd H2 t (.tup [.str "a", .int 1])) l o) p i := fun {o} => hPt.same (Same.new o (Same.refl _) hl2)
      refine ⟨p, l, _, i, rfl, upd_same, (by show 0 < 7; decide), (by show 7 < 1000; decide), by omega, hPl, fun H3 j v hv hP3 kp => ?_⟩
      have ntp : t ≠ p := hPt.ne upd_same (fun _ z => by cases z)
      have ht3 : H3 t = some (.tup [.str "a", .int 1]) := kp _ _ ntp (at_upd _ upd_same hl2)
      obtain ⟨d, hw⟩ : ∃ d, Wo H3 v d := by
        match j, hv with
        | 0, hv => exact wo_of (v0 := .non) hv ⟨_, .non⟩
        | 1, hv => exact wo_of (v0 := .str "word") hv ⟨_, .str _ (by decide +kernel)⟩
        | 2, hv => exact wo_of (v0 := .int (-3)) hv ⟨_, .int _⟩
        | 3, hv => exact wo_of (v0 := .int (10 ^ (40 : Int).toNat)) hv ⟨_, .int _⟩
        | 4, hv => exact wo_of (v0 := .ref t) hv ⟨_, .tup t ht3⟩
        | 5, hv => exact wo_of (v0 := .bl true) hv ⟨_, .bl _⟩
        | 6, hv => exact wo_of (v0 := .int 7) hv ⟨_, .int _⟩
        | j + 7, hv => cases hv
      -- the error and what it keeps
      refine ⟨_, rfl, _, rfl, i, v, rfl, Nat.zero_le _, hi, fun H4 e l4 q s4 hE hK hq => ?_⟩
      refine ⟨q, _, rfl, SqT.of hq, rfl, _, _, rfl, _, _, rfl, rfl, ?_⟩
      have hw4 := hw.same s4
      -- _law_kept != [..][:many]
      refine ⟨_, rfl, _, rfl, _, rfl, sz2, fun t5 ht5 => ⟨_, rfl, sz1, fun x5 hx5 => ⟨sz3, fun l5 hl5 => ⟨_, rfl, i, rfl, hi, fun H6 s6 => ?_⟩⟩⟩⟩
      have f5 := at_upd (.lst [v, .ref t5, .ref x5]) (at_upd (.lst [v]) (upd_same (H := H4) (a := t5) (o := .tup [v, .int 1])) hx5) hl5
      have g5 := at_upd (.lst [v, .ref t5, .ref x5]) (upd_same (H := upd H4 t5 (.tup [v, .int 1])) (a := x5) (o := .lst [v])) hl5
      have sA : Same H4 H6 := Same.trans (Same.new _ (Same.new _ (Same.new _ (Same.refl H4) ht5) hx5) hl5) s6
      refine ⟨_, rfl, l5, _, rfl, SqL.of (s6 _ _ upd_same), fun l7 hl7 => ?_⟩
      have sB : Same H4 (upd H6 l7 (.lst (cutV [v, .ref t5, .ref x5] none (some (many i : Int))))) := Same.new _ sA hl7
      have hK7 : ∀ o, Dp K (upd H6 l7 o) (.ref l4) (.list (dts d (many i))) := fun o => by
        have sC : Same H4 (upd H6 l7 o) := Same.new _ sA hl7
        refine kept_dp ?_ (hw4.same sC)
        unfold KeptAt at hK ⊢
        match many i, hK with
        | 0, hK => exact sC _ _ hK
        | 1, hK => exact sC _ _ hK
        | 2, ⟨t, h1, h2⟩ => exact ⟨t, sC _ _ h1, sC _ _ h2⟩
        | n + 3, ⟨t, x, h1, h2, h3⟩ => exact ⟨t, x, sC _ _ h1, sC _ _ h2, sC _ _ h3⟩
      have hsh := dts_shape hw.shape (many i)
      refine ⟨_, _, hK7 _, slice_dp upd_same (at_upd _ (s6 _ _ f5) hl7) (at_upd _ (s6 _ _ g5) hl7) (hw4.same sB), hsh, hsh, _, rfl, ?_⟩
      rw [eq_self hsh]
      refine iteF ?_
      have hE7 : ∀ {o : HO}, ExAt (upd H6 l7 o) e (Cof K i) := fun {o} => hE.same (Same.new _ sA hl7)
      -- isinstance
      refine ⟨_, rfl, e, Cof K i, _, _, _, rfl, .own _, hE7, T.ec i hi, T.kLE i hi, _, rfl, iteF ?_⟩
      refine ⟨_, rfl, e, Cof K i, _, _, _, rfl, .ty _, hE7, T.ec i hi, T.kVE i hi, _, rfl, iteF ?_⟩
      -- the kinds
      refine ⟨_, rfl, e, i, rfl, hi, hE7, fun H8 l8 s8 hl8 => ?_⟩
      refine ⟨37, rfl, by decide, by decide, fun D hD => lc_range (lo := 0) (n := 37) (fun j Hc => Hc D = some (.lst ((kb i j).map V.bl)) ∧ ∀ b o, H8 b = some o → Hc b = some o) ⟨upd_same, Same.new _ (Same.refl H8) hD⟩ ?_ ?_⟩
      · rintro j Hc hj ⟨h1, h2⟩
        refine ⟨rfl, yes_of ?_⟩
        refine ⟨_, rfl, _, rfl, rfl, _, h1, ?_, ?_⟩
        · rw [List.length_map]
          show (kb i j).length < sizeLine
          unfold kb
          rw [List.length_map, List.length_range]
          exact small1000 (by omega)
        · have e1 : (0 : Int) + ((j : Nat) : Int) = (j : Int) := Int.zero_add _
          have e2 : decide (V.int ((0 : Int) + ((j : Nat) : Int)) = V.int ((i : Nat) : Int)) = decide (j = i) := by
            rw [e1]
            by_cases z : j = i
            · subst z
              simp
            · have z2 : ¬ (V.int (j : Int) = V.int (i : Int)) := fun q => z (by have := V.int.inj q; omega)
              rw [decide_eq_false z2, decide_eq_false z]
          refine ⟨?_, fun b o e => ?_⟩
          · rw [upd_same, e2]
            unfold kb
            rw [List.range_succ, List.map_append, List.map_append]
            rfl
          · have nb : b ≠ D := ne_of_none e hD
            rw [upd_ne nb]
            exact h2 b o e
      · rintro Hc ⟨h1, h2⟩
        refine ⟨_, _, .lst (SqL.of (h2 _ _ (by rw [← kindsOf_eq]; exact hl8))) (dpAll_bools _), .lst (SqL.of h1) (dpAll_bools _), shaped_bools _, shaped_bools _, _, rfl, ?_⟩
        rw [eq_self (shaped_bools _)]
        refine iteF ?_
        refine ⟨_, _, _, _, _, rfl, ?_⟩
        have sAll : Same H4 Hc := Same.trans (Same.new _ sA hl7) (Same.trans s8 h2)
        exact (hP3.same s4).same sAll
    · rintro σ H2 ⟨v2, v3, v4, v5, v6, rfl, hP2⟩
      exact k _
end
end K00

set_option maxHeartbeats 0
namespace K00
open PySem PySem.Spec PyProof.Rows L2 Z
theorem facts {P : Program} {w : World} {K : PySem.W.Frag} {h : Heap} {mg : Str → Option Value} {f : Addr} (X : K.In h) (G : h.Ns mainGlobals mg) (hfa : mg ("law" : Str) = some (.ref f)) (c : SaysX fa fn K) :
    ∃ fd : FuncData, (∀ (s : Shared) (v : Value), BindsTo s fd ⟨[v], []⟩ [("_law_script", v)]) ∧ ∀ base : Heap, K.In base → base.Ns mainGlobals mg → FnOk P w K mg base CX0 8 f fd ["_law_script"] (spLaw K) := by
  have gl : ∀ x ∈ dfs, mg x = some (.ref (He.ga K x)) := fun x hx => He.glo_ok X G (List.all_eq_true.mp (c.fact 1) x hx)
  have fr : ∀ x ∈ (["int", "len", "list", "isinstance", "range", "ValueError"] : List Str), mg x = none := fun x hx => He.free_ok X G (List.all_eq_true.mp (c.fact 2) x hx)
  have hin : ∀ k, k < 37 → cls.getD k "" ∈ cls := fun k hk => by
    have hl : k < cls.length := hk
    rw [List.getD_eq_getElem?_getD, List.getElem?_eq_getElem hl]
    exact List.getElem_mem hl
  have T : Tx K mg := {
    int := fr _ (by decide +kernel), len := fr _ (by decide +kernel), list := fr _ (by decide +kernel), isi := fr _ (by decide +kernel), range := fr _ (by decide +kernel), ve := fr _ (by decide +kernel)
    gLE := He.glo_ok X G (x := "LoopError") (List.all_eq_true.mp (c.fact 0) ("LoopError" : Str) (List.mem_append_right _ (List.mem_singleton.mpr rfl)))
    gC := fun k hk => He.glo_ok X G (x := cls.getD k "") (List.all_eq_true.mp (c.fact 0) (cls.getD k "") (List.mem_append_left _ (hin k hk)))
    ec := fun k hk => (exkB_ok (C := Cof K k) (List.all_eq_true.mp (c.fact 3) (cls.getD k "") (hin k hk))).ec
    kit := fun k hk j hj => of_decide_eq_true (List.all_eq_true.mp (List.all_eq_true.mp (c.fact 6) k (List.mem_range.mpr hk)) j (List.mem_range.mpr hj))
    kLE := fun k hk => of_decide_eq_true (He.ba (List.all_eq_true.mp (c.fact 7) k (List.mem_range.mpr hk))).1
    kVE := fun k hk => of_decide_eq_true (He.ba (List.all_eq_true.mp (c.fact 7) k (List.mem_range.mpr hk))).2 }
  obtain ⟨fd_law_pen, F_law_pen⟩ := c.def_ 0 (d := d_law_pen) rfl
  obtain ⟨fd_law_draw, F_law_draw⟩ := c.def_ 1 (d := d_law_draw) rfl
  obtain ⟨fd_law_pick, F_law_pick⟩ := c.def_ 2 (d := d_law_pick) rfl
  obtain ⟨fd_law_made_a, F_law_made_a⟩ := c.def_ 3 (d := d_law_made_a) rfl
  obtain ⟨fd_law_made_b, F_law_made_b⟩ := c.def_ 4 (d := d_law_made_b) rfl
  obtain ⟨fd_law_made_c, F_law_made_c⟩ := c.def_ 5 (d := d_law_made_c) rfl
  obtain ⟨fd_law_made_d, F_law_made_d⟩ := c.def_ 6 (d := d_law_made_d) rfl
  obtain ⟨fd_law_made_e, F_law_made_e⟩ := c.def_ 7 (d := d_law_made_e) rfl
  obtain ⟨fd_law_many_fields, F_law_many_fields⟩ := c.def_ 8 (d := d_law_many_fields) rfl
  obtain ⟨fd_law_kinds_of, F_law_kinds_of⟩ := c.def_ 9 (d := d_law_kinds_of) rfl
  obtain ⟨fd_law, F_law⟩ := c.def_ 10 (d := d_law) rfl
  obtain ⟨fdBadText, FBadText⟩ := c.def_ 11 (d := dBadText) rfl
  obtain ⟨fdBadName, FBadName⟩ := c.def_ 12 (d := dBadName) rfl
  obtain ⟨fdBadNumber, FBadNumber⟩ := c.def_ 13 (d := dBadNumber) rfl
  obtain ⟨fdBadSize, FBadSize⟩ := c.def_ 14 (d := dBadSize) rfl
  obtain ⟨fdBadMany, FBadMany⟩ := c.def_ 15 (d := dBadMany) rfl
  obtain ⟨fdBadGrade, FBadGrade⟩ := c.def_ 16 (d := dBadGrade) rfl
  obtain ⟨fdTooMany, FTooMany⟩ := c.def_ 17 (d := dTooMany) rfl
  obtain ⟨fdTooLarge, FTooLarge⟩ := c.def_ 18 (d := dTooLarge) rfl
  obtain ⟨fdTooFar, FTooFar⟩ := c.def_ 19 (d := dTooFar) rfl
  obtain ⟨fdTooLong, FTooLong⟩ := c.def_ 20 (d := dTooLong) rfl
  obtain ⟨fdNoLoop, FNoLoop⟩ := c.def_ 21 (d := dNoLoop) rfl
  obtain ⟨fdNoStatement, FNoStatement⟩ := c.def_ 22 (d := dNoStatement) rfl
  obtain ⟨fdNoAccess, FNoAccess⟩ := c.def_ 23 (d := dNoAccess) rfl
  obtain ⟨fdNoArray, FNoArray⟩ := c.def_ 24 (d := dNoArray) rfl
  obtain ⟨fdNoWork, FNoWork⟩ := c.def_ 25 (d := dNoWork) rfl
  obtain ⟨fdNoNumber, FNoNumber⟩ := c.def_ 26 (d := dNoNumber) rfl
  obtain ⟨fdNoRead, FNoRead⟩ := c.def_ 27 (d := dNoRead) rfl
  obtain ⟨fdNoLag, FNoLag⟩ := c.def_ 28 (d := dNoLag) rfl
  obtain ⟨fdNotKept, FNotKept⟩ := c.def_ 29 (d := dNotKept) rfl
  obtain ⟨fdNotWhole, FNotWhole⟩ := c.def_ 30 (d := dNotWhole) rfl
  obtain ⟨fdUnlike, FUnlike⟩ := c.def_ 31 (d := dUnlike) rfl
  obtain ⟨fdDeeper, FDeeper⟩ := c.def_ 32 (d := dDeeper) rfl
  obtain ⟨fdDeep, FDeep⟩ := c.def_ 33 (d := dDeep) rfl
  obtain ⟨fdLong, FLong⟩ := c.def_ 34 (d := dLong) rfl
  obtain ⟨fdMixing, FMixing⟩ := c.def_ 35 (d := dMixing) rfl
  obtain ⟨fdSameArray, FSameArray⟩ := c.def_ 36 (d := dSameArray) rfl
  obtain ⟨fdNotSame, FNotSame⟩ := c.def_ 37 (d := dNotSame) rfl
  obtain ⟨fdTaken, FTaken⟩ := c.def_ 38 (d := dTaken) rfl
  obtain ⟨fdEndless, FEndless⟩ := c.def_ 39 (d := dEndless) rfl
  obtain ⟨fdBadDeed, FBadDeed⟩ := c.def_ 40 (d := dBadDeed) rfl
  obtain ⟨fdTakenName, FTakenName⟩ := c.def_ 41 (d := dTakenName) rfl
  obtain ⟨fdNoProgram, FNoProgram⟩ := c.def_ 42 (d := dNoProgram) rfl
  obtain ⟨fdNotInOrder, FNotInOrder⟩ := c.def_ 43 (d := dNotInOrder) rfl
  obtain ⟨fdNotSameFlow, FNotSameFlow⟩ := c.def_ 44 (d := dNotSameFlow) rfl
  have e := hfa.symm.trans (gl "law" (by decide +kernel))
  cases e
  refine ⟨fd_law, fun s v => FunD.bindsA (ps := ["_law_script"]) F_law (fun _ _ _ _ _ _ us hl => match us, hl with | [_], _ => rfl) s [v] rfl, fun base _ _ => ?_⟩
  have A : All P w K mg base := {
    mBadText := mxBadText (ec_of X G c (by decide +kernel)) FBadText
    mBadName := mxBadName (ec_of X G c (by decide +kernel)) FBadName
    mBadNumber := mxBadNumber (ec_of X G c (by decide +kernel)) FBadNumber
    mBadSize := mxBadSize (ec_of X G c (by decide +kernel)) FBadSize
    mBadMany := mxBadMany (ec_of X G c (by decide +kernel)) FBadMany
    mBadGrade := mxBadGrade (ec_of X G c (by decide +kernel)) FBadGrade
    mTooMany := mxTooMany (ec_of X G c (by decide +kernel)) FTooMany
    mTooLarge := mxTooLarge (ec_of X G c (by decide +kernel)) FTooLarge
    mTooFar := mxTooFar (ec_of X G c (by decide +kernel)) FTooFar
    mTooLong := mxTooLong (ec_of X G c (by decide +kernel)) FTooLong
    mNoLoop := mxNoLoop (ec_of X G c (by decide +kernel)) FNoLoop
    mNoStatement := mxNoStatement (ec_of X G c (by decide +kernel)) FNoStatement
    mNoAccess := mxNoAccess (ec_of X G c (by decide +kernel)) FNoAccess
    mNoArray := mxNoArray (ec_of X G c (by decide +kernel)) FNoArray
    mNoWork := mxNoWork (ec_of X G c (by decide +kernel)) FNoWork
    mNoNumber := mxNoNumber (ec_of X G c (by decide +kernel)) FNoNumber
    mNoRead := mxNoRead (ec_of X G c (by decide +kernel)) FNoRead
    mNoLag := mxNoLag (ec_of X G c (by decide +kernel)) FNoLag
    mNotKept := mxNotKept (ec_of X G c (by decide +kernel)) FNotKept
    mNotWhole := mxNotWhole (ec_of X G c (by decide +kernel)) FNotWhole
    mUnlike := mxUnlike (ec_of X G c (by decide +kernel)) FUnlike
    mDeeper := mxDeeper (ec_of X G c (by decide +kernel)) FDeeper
    mDeep := mxDeep (ec_of X G c (by decide +kernel)) FDeep
    mLong := mxLong (ec_of X G c (by decide +kernel)) FLong
    mMixing := mxMixing (ec_of X G c (by decide +kernel)) FMixing
    mAtEnd := em_of X G c (by decide +kernel) (by decide +kernel)
    mAtStart := em_of X G c (by decide +kernel) (by decide +kernel)
    mOtherProgram := em_of X G c (by decide +kernel) (by decide +kernel)
    mSameArray := mxSameArray (ec_of X G c (by decide +kernel)) FSameArray
    mNotSame := mxNotSame (ec_of X G c (by decide +kernel)) FNotSame
    mTaken := mxTaken (ec_of X G c (by decide +kernel)) FTaken
    mEndless := mxEndless (ec_of X G c (by decide +kernel)) FEndless
    mBadDeed := mxBadDeed (ec_of X G c (by decide +kernel)) FBadDeed
    mTakenName := mxTakenName (ec_of X G c (by decide +kernel)) FTakenName
    mNoProgram := mxNoProgram (ec_of X G c (by decide +kernel)) FNoProgram
    mNotInOrder := mxNotInOrder (ec_of X G c (by decide +kernel)) FNotInOrder
    mNotSameFlow := mxNotSameFlow (ec_of X G c (by decide +kernel)) FNotSameFlow }
  have D_law_pen : Dn P w K mg base 1 "_law_pen" ["_law_script"] (spPen K) := ⟨_, _, ok_pen F_law_pen T.toBt, gl _ (by decide +kernel), F_law_pen.kp, FunD.bindsN (ps := ["_law_script"]) F_law_pen fun _ _ _ _ _ _ us hl => match us, hl with | [_], _ => rfl⟩
  have D_law_draw : Dn P w K mg base 1 "_law_draw" ["_law_pen_here", "_law_many"] spDraw := ⟨_, _, ok_draw F_law_draw T.toBt, gl _ (by decide +kernel), F_law_draw.kp, FunD.bindsN (ps := ["_law_pen_here", "_law_many"]) F_law_draw fun _ _ _ _ _ _ us hl => match us, hl with | [_, _], _ => rfl⟩
  have D_law_pick : Dn P w K mg base 2 "_law_pick" ["_law_pen_here", "_law_some"] spPick := ⟨_, _, ok_pick F_law_pick T.toBt D_law_draw, gl _ (by decide +kernel), F_law_pick.kp, FunD.bindsN (ps := ["_law_pen_here", "_law_some"]) F_law_pick fun _ _ _ _ _ _ us hl => match us, hl with | [_, _], _ => rfl⟩
  have D_law_made_e : Dn P w K mg base 3 "_law_made_e" ["_law_k", "_law_worth"] (spMade K 36) := ⟨_, _, ok_law_made_e F_law_made_e A, gl _ (by decide +kernel), F_law_made_e.kp, FunD.bindsN (ps := ["_law_k", "_law_worth"]) F_law_made_e fun _ _ _ _ _ _ us hl => match us, hl with | [_, _], _ => rfl⟩
  have D_law_made_d : Dn P w K mg base 4 "_law_made_d" ["_law_k", "_law_worth"] (spMade K 27) := ⟨_, _, ok_law_made_d F_law_made_d A D_law_made_e, gl _ (by decide +kernel), F_law_made_d.kp, FunD.bindsN (ps := ["_law_k", "_law_worth"]) F_law_made_d fun _ _ _ _ _ _ us hl => match us, hl with | [_, _], _ => rfl⟩
  have D_law_made_c : Dn P w K mg base 5 "_law_made_c" ["_law_k", "_law_worth"] (spMade K 18) := ⟨_, _, ok_law_made_c F_law_made_c A D_law_made_d, gl _ (by decide +kernel), F_law_made_c.kp, FunD.bindsN (ps := ["_law_k", "_law_worth"]) F_law_made_c fun _ _ _ _ _ _ us hl => match us, hl with | [_, _], _ => rfl⟩
  have D_law_made_b : Dn P w K mg base 6 "_law_made_b" ["_law_k", "_law_worth"] (spMade K 9) := ⟨_, _, ok_law_made_b F_law_made_b A D_law_made_c, gl _ (by decide +kernel), F_law_made_b.kp, FunD.bindsN (ps := ["_law_k", "_law_worth"]) F_law_made_b fun _ _ _ _ _ _ us hl => match us, hl with | [_, _], _ => rfl⟩
  have D_law_made_a : Dn P w K mg base 7 "_law_made_a" ["_law_k", "_law_worth"] (spMade K 0) := ⟨_, _, ok_law_made_a F_law_made_a A D_law_made_b, gl _ (by decide +kernel), F_law_made_a.kp, FunD.bindsN (ps := ["_law_k", "_law_worth"]) F_law_made_a fun _ _ _ _ _ _ us hl => match us, hl with | [_, _], _ => rfl⟩
  have D_law_many_fields : Dn P w K mg base 1 "_law_many_fields" ["_law_k"] spMany := ⟨_, _, ok_many F_law_many_fields, gl _ (by decide +kernel), F_law_many_fields.kp, FunD.bindsN (ps := ["_law_k"]) F_law_many_fields fun _ _ _ _ _ _ us hl => match us, hl with | [_], _ => rfl⟩
  have D_law_kinds_of : Dn P w K mg base 1 "_law_kinds_of" ["_law_e"] (spKinds K) := ⟨_, _, ok_kinds F_law_kinds_of T, gl _ (by decide +kernel), F_law_kinds_of.kp, FunD.bindsN (ps := ["_law_e"]) F_law_kinds_of fun _ _ _ _ _ _ us hl => match us, hl with | [_], _ => rfl⟩
  exact ok_law F_law T D_law_pen D_law_pick D_law_made_a D_law_many_fields D_law_kinds_of
end K00
open PySem PySem.W PySem.Calls PyProof.Rows
theorem PySem.Challenge.cw_loopsize_k00_errors_made_from_their_fiel_holds : PySem.Challenge.rw_loopsize_k00_errors_made_from_their_fiel.Holds := by
  w_on; o_law
  refine HandSHeadRun.head_any (r := OpenLaw.row PySem.Challenge.rw_loopsize_k00_errors_made_from_their_fiel) (q := view (OpenLaw.row PySem.Challenge.rw_loopsize_k00_errors_made_from_their_fiel).prog [50]) (H := K00.hk) (ob := K00.ob) (M := 20000) (loose := K00.names) (d := HandSHeadRun.topDef (OpenLaw.row PySem.Challenge.rw_loopsize_k00_errors_made_from_their_fiel).prog 50) (kwd := []) K00.ob_eq
    (by kernel_rfl) (fun s => by kernel_rfl) K00.run (by kernel_rfl) (by kernel_rfl) (by kernel_rfl) (by rfl) (by first | assumption | decide +kernel) (by decide +kernel) ⟨rfl, rfl, rfl, rfl, rfl, by decide +kernel⟩ ?hw ?hc
  case hw => w_witness2
  case hc =>
    refine L2.walk_ofE (l := PySem.Challenge.rw_loopsize_k00_errors_made_from_their_fiel) (n := 63) (k := 8) (x := "_law_script") (CX := L2.CX0) rfl (by decide) (by kernel_rfl) ⟨rfl, by decide, by decide⟩ ?F (fun _ _ _ _ z => z)
    intro w mg fa h Y G hmg0
    obtain ⟨K, KX, c⟩ := Y
    have hmg : mg ("law" : PySem.Str) = some (.ref fa) := by
      have e : (HandSHeadRun.topDef (OpenLaw.row PySem.Challenge.rw_loopsize_k00_errors_made_from_their_fiel).prog 50).name = ("law" : PySem.Str) := by kernel_rfl
      rw [← e]
      exact hmg0
    obtain ⟨fd, hb, hF⟩ := K00.facts (P := (PySem.Challenge.rw_loopsize_k00_errors_made_from_their_fiel).prog) (w := w) KX G hmg c
    exact ⟨K, fd, K00.spLaw K, KX, hb, fun H a ns hl _ hS => ⟨a, ns, rfl, hS, hl, fun _ => rfl⟩, hF⟩

