import PyProof.Rows.All
import Wide.All
import OpenK.AllK
import Wide.FinOn
import KE.KExcIs
import HandS.ForMost
import HandS.Exc
import HandS.ExcInit
import HandS.ExcOwn
import HandS.ExcValue
import HandS.ExcField
import HandS.ExcIs
import HandS.IsInst
import HandS.WordsExc
import HandS.Defaults
import HandS.HeadHook1
import HandS.HeadHook2
import HandS.Head0
import HandS.Head1
import HandS.Head2
import HandS.HeadEnd
import KE.KOpsOwn
import PyProof.ListMulRight
import PyProof.FactsAll.int_3
import PyProof.FactsAll.int_5
import HandS.Star
import HandS.Gcd
import HandS.Wide
import HandS.SlotsOwn
import PyProof.InstNe
import HandS.TryMany
import HandS.MakeKwOnly
import HandS.CallSlots
import HandS.SetFor
import HandS.Strs
import HandS.SetTxt0
import PyProof.Rows.SortShellAny
import HandS.Comp
import HandS.Iter
import HandS.Style
import HandS.Head3
import PySem.Challenge.RW_loopsize_k23_parts_refused_at_their_boun
set_option Elab.async false
set_option linter.all false
set_option maxRecDepth 100000
set_option maxHeartbeats 4000000
namespace Z
open PySem PySem.Spec PyProof.Rows L2
section
variable {X : Cx} {e : Expr} {es : List Expr} {te : TE} {ta : TA} {p pos : Pos}
/-- C(e, ..), an own exception class with its own __init__, as a value -/
def tMkE (C : Addr) (sp : Sp) (ta : TA) : TE := fun σ H Q => ta σ H fun vs H1 => vs.length ≤ 1000 ∧ ∀ a, H1 a = none →
  sp (.ref a :: vs) (upd H1 a (exo a C none)) (fun v H2 => v = .non ∧ Q (.ref a) H2) (fun _ _ _ => False)
theorem pe_mkE {CX : CXT} {x : Str} {C fI : Addr} {k : Nat} {fd : FuncData} {ps : List Str} {sp : Sp} (T : OexC X.K C) (iC : PySem.W.findIn X.K (.ref C) "__init__" = some (some (.ref fI))) (tI : PySem.W.typeIn X.K (.ref fI) = some (.type "function"))
    (F1 : FnOk X.prog X.w X.K X.mg X.base CX k fI fd ps sp) (hr : Room (k + 1) X.A) (hb : Binds X.K fd ps []) (hx : Passes CX X (fun _ _ _ => False)) (hg : Gl X x) (hm : X.mg x = some (.ref C)) (ha : PA X (e :: es) ta)
    (hdb : (x == ("__debug__" : Str)) = false := by decide) (he : starEach (e :: es) X.env = (false, eval e X.env) :: starEach es X.env := by rfl) (hpl : (backTo pos (starEach es X.env)).any (·.1) = false := by rfl) :
    PE X (.Call (.Name x p) (e :: es) [] pos) (tMkE C sp ta) := by
  refine ⟨fun pins s σ H Q I h => ?_⟩
  obtain ⟨nm, q, N, bs, bm, sn, sub, ab, col, dd, k0, k1, k2, k3, k5, hC, hbm⟩ := T.cls
  refine wpAny_Call_Name_kw (ld_glob I hg hm ?_ hdb)
  refine PySem.W.callWith_K (h₀ := X.base) I.ok.mod.kin T.kC (thn (ha.run pos pins s σ H _ I h) fun us s1 ⟨vs, H1, I1, r1, hz, q1⟩ => ⟨I1.kIn, ?_⟩) he hpl
  show wpAny _ _ (call (.ref C) us) _ _ _
  obtain ⟨hp, g, dr, tk, os⟩ := s1
  have hsz : hp.objs.size ≤ hp.objs.size + 1 := Nat.le_succ _
  have hn : H1 (hp.objs.size + 1) = none := I1.hok.fresh hsz
  have hq := q1 (hp.objs.size + 1) hn
  have kk : ∀ b o, hp.get? b = some o → ((hp.push (PySem.W.kdv_tup us)).push (PySem.HandSPX.excO C hp.objs.size)).get? b = some o := fun b o e => Heap.get?_push_of_some _ (Heap.get?_push_of_some _ e)
  have hget : ((hp.push (PySem.W.kdv_tup us)).push (PySem.HandSPX.excO C hp.objs.size)).get? (hp.objs.size + 1) = some (PySem.HandSPX.excO C hp.objs.size) := by heap_get
  have I2 : Inv X pins σ (upd H1 (hp.objs.size + 1) (exo (hp.objs.size + 1) C none)) ⟨(hp.push (PySem.W.kdv_tup us)).push (PySem.HandSPX.excO C hp.objs.size), g, dr, tk, os⟩ :=
    I1.laid (t' := tk) (a := hp.objs.size + 1) (o := exo (hp.objs.size + 1) C none) (h' := (hp.push (PySem.W.kdv_tup us)).push (PySem.HandSPX.excO C hp.objs.size)) kk hsz (exo_ok hget)
  have r2 : Vals (V.ref (hp.objs.size + 1) :: vs) (Value.ref (hp.objs.size + 1) :: us) := .cons rfl r1
  have hl : (Value.ref (hp.objs.size + 1) :: us ++ []).length = ps.length := by
    have e := r2.length
    rw [F1.len _ _ _ _ hq] at e
    rw [List.append_nil]
    exact e.symm
  have hb2 : BindsTo ⟨(hp.push (PySem.W.kdv_tup us)).push (PySem.HandSPX.excO C hp.objs.size), g, dr, tk, os⟩ fd ⟨Value.ref (hp.objs.size + 1) :: us, []⟩ (ps.zip (Value.ref (hp.objs.size + 1) :: us)) := by
    have z := hb ⟨(hp.push (PySem.W.kdv_tup us)).push (PySem.HandSPX.excO C hp.objs.size), g, dr, tk, os⟩ (Value.ref (hp.objs.size + 1) :: us) I2.kIn hl
    rw [List.append_nil] at z
    exact z
  have hus : us.length ≤ sizeLine := by
    rw [← Paired.length r1, sizeLine_eq]
    omega
  refine wpAny_call (PySem.HandSPX.call_own F.excBase_ValueError (fun Y => PySem.HandSPX.refsVE_contains Y bm hbm) (I1.kIn _ _ hC) (PySem.W.looks_findIn I1.kIn iC) (fun self => PySem.W.bind_fn I1.kIn self tI) hus
    (codeAny_mono (F1.run _ X.stack _ _ ⟨Value.ref (hp.objs.size + 1) :: us, []⟩ (Value.ref (hp.objs.size + 1) :: us) _ _ (fun _ _ _ => False) (hr.make C us []) (I2.env0.make C us []) hb2 r2 hq) fun r s' hq' => ?_))
  cases r with
  | error er => exact hx pins σ _ _ er s' I2 hq'
  | ok fl =>
    cases fl with
    | ret u =>
      obtain ⟨v, H', I3, rv, ev, q3⟩ := I2.after hq'
      subst ev
      exact ⟨rv, ⟨V.ref (hp.objs.size + 1), H', I3, rfl, q3⟩⟩
    | next => exact False.elim hq'
    | brk => exact False.elim hq'
    | cont => exact False.elim hq'
/-- X(), an own exception class without own __init__, as a value -/
theorem pe_exc0 {C : Addr} {bmB : List Value} {B newId initId : String} {x : Str} (F : ExcBaseFacts B newId initId bmB) (q : PySem.W.excIn X.K C bmB newId = true) (gC : X.mg x = some (.ref C)) (kC : PySem.W.keepIn X.K (.ref C) = true) (hg : Gl X x)
    (hdb : (x == ("__debug__" : Str)) = false := by decide) :
    PE X (.Call (.Name x p) [] [] pos) (fun σ H Q => ∀ a, H a = none → Q (.ref a) (upd H a (ExO (.ref C) a))) := by
  refine ⟨fun pins s σ H Q I h => ?_⟩
  refine wpAny_Call_Name_kw (ld_glob I hg gC ?_ hdb)
  refine PySem.W.callWith_K0 I.kIn kC ?_
  show wpAny _ _ (call (.ref C) []) _ _ _
  obtain ⟨bm, N, nm, qn, bs, hdct, sn, sub, ab, col, dd, k0, k1, k2, k3, k5, mN, hC, hN, hni, T⟩ := exc_obj I.kIn q
  refine wpAny_call_exc_subT F T hC hN hni (fun h' a hm => ?_) (by show 0 ≤ sizeLine; exact Nat.zero_le _)
  have hn : H a = none := I.hok.gone hm.new
  obtain ⟨t, ht, _, _⟩ := hm.there
  exact ⟨.ref a, upd H a (ExO (.ref C) a), I.laidN hm.keeps hm.new hn (exO_ok ht ⟨rfl, rfl⟩ rfl rfl rfl (show 4 < 6 by decide)), rfl, h a hn⟩
/-- e.f, e an exception object with fields, in ordinary code -/
def tXg (K : PySem.W.Frag) (f : Str) (te : TE) : TE := fun σ H Q => te σ H fun x H1 => ∃ (a C d : Addr) (fs : List (Str × V)) (v : V), x = .ref a ∧ H1 a = some (exo a C (some d)) ∧ H1 d = some (exd d fs) ∧ XfC K C ∧
  PySem.W.findIn K (.ref C) f = some none ∧ fs.lookup f = some v ∧ Q v H1
theorem pe_xg {n : Str} (he : PE X e te) (hb : attributeBase e n X.env (eval e X.env) = eval e X.env := by rfl) :
    PE X (.Attribute e n pos) (tXg X.K n te) := by
  refine ⟨fun pins s σ H Q I h => ?_⟩
  refine attr_of hb (thn (he.run pins s σ H _ I h) fun u s1 hh => ?_)
  obtain ⟨x, H1, I1, rx, a, C, d, fs, v, ex, ea, ed, T, hno, l, q⟩ := hh
  subst ex
  obtain rfl : u = Value.ref a := rx
  obtain ⟨t1, ho⟩ := exo_at I1.hok ea
  obtain ⟨mA, hns, hr⟩ := exd_at I1.hok ed
  obtain ⟨od, hod, hl⟩ := lookIn_ns hns
  obtain ⟨u, hu, ru⟩ := RelO.some_of (v := v) (o := mA n) (by rw [← l]; exact hr n)
  have J : PySem.W.InstAt s1.heap a { cls := .ref C, dict := some d, data := .fields #[.ref t1, .none, .none, .none, .bool false, .none] } C (some od) := ⟨ho, rfl, rfl, hod⟩
  exact HandSPX.exc_get I1.kIn J T.ga T.gg T.exC (PySem.W.findObj_own T.hdC hno rfl (by rw [hl, hu])) (handed_of ru) ⟨v, H1, I1.tok _, ru, q⟩
/-- an exception object of the class at C stands at a -/
def ExAt (H : Hp) (a C : Addr) : Prop := (∃ d fs, H a = some (exo a C (some d)) ∧ H d = some (exd d fs)) ∨ H a = some (ExO (.ref C) a)
def rIsX (K : PySem.W.Frag) : List V → Hp → VK → Prop := fun xs H Q => ∃ (a C : Addr) (c : V) (u : Value) (b : Bool), xs = [.ref a, c] ∧ ClsV c u ∧ ExAt H a C ∧ ExcC K C ∧ PySem.W.kitOne K (.ref C) u = some b ∧ Q (.bl b) H
theorem call_isX : CallR X (.builtin "isinstance") (rIsX X.K) := by
  intro pins s σ H xs us Q I r h
  obtain ⟨a, C, c, u, b, rfl, k, hat, T, e, q⟩ := h
  obtain ⟨u1, u2, rfl, r1, r2⟩ := vals2 r
  cases (show u1 = Value.ref a from r1)
  have e2 := k.eq r2
  subst e2
  have hcl : (PySem.W.clsIn X.K C).isSome = true := by
    obtain ⟨cd, hc, _⟩ := PySem.W.any_some T.hd
    rw [hc]
    rfl
  obtain ⟨ox, od, J⟩ : ∃ ox od, PySem.W.InstAt s.heap a ox C od := by
    rcases hat with ⟨d, fs, ea, ed⟩ | ea
    · obtain ⟨t1, ho⟩ := exo_at I.hok ea
      obtain ⟨mA, hns, hr⟩ := exd_at I.hok ed
      obtain ⟨od, hod, hl⟩ := lookIn_ns hns
      exact ⟨{ cls := .ref C, dict := some d, data := .fields #[.ref t1, .none, .none, .none, .bool false, .none] }, some od, ⟨ho, rfl, rfl, hod⟩⟩
    · have x : ObjOk X.prog X.w H s.heap a (ExO (.ref C) a) := I.hok a _ ea
      obtain ⟨⟨oe, vs, ho, hz, hd, _⟩, _⟩ := x
      obtain ⟨oc, od, odt, osl⟩ := oe
      obtain ⟨h1, h2⟩ := hz
      dsimp only at h1 h2 hd
      subst h1 h2 hd
      exact ⟨_, none, ⟨ho, rfl, rfl, trivial⟩⟩
  exact PySem.W.kia_one (PySem.W.kitx_exc hcl T.hg T.hk T.hs T.ha T.hn T.ht T.hm) I.kIn J e (fun z => nomatch z) fun tk => ⟨.bl b, H, I.tok tk, rfl, q⟩
end
end Z

set_option maxHeartbeats 4000000
namespace Z
open PySem PySem.Spec PyProof.Rows L2
/-! ### facts of the head -/
abbrev FaK : Type := PySem.W.Frag → Bool
def obsX (fa : List FaK) (fn : List He.DefD) (K : PySem.W.Frag) : He.AlD := ((fa.all fun f => f K) && fn.all fun d => d.ok K, fn.map fun d => He.fnW K d.at_)
def SaysX (fa : List FaK) (fn : List He.DefD) (K : PySem.W.Frag) : Prop := obsX fa fn K = He.valD fn
def obsXG (n : Nat) (fa : List FaK) (fn : List He.DefD) (g : Addr → Option Obj) : He.AlD := obsX fa fn (He.frG g (He.asD g n))
def hookX (n : Nat) (fa : List FaK) (fn : List He.DefD) : PySem.W.Hook where
  α := He.AlD
  obs := fun s => obsXG n fa fn s.heap.get?
  val := fun _ => He.valD fn
  says := fun _ h => ∃ K : PySem.W.Frag, K.In h ∧ SaysX fa fn K
  of := fun _ _ e => ⟨_, He.frG_in, e⟩
  keeps := fun _ _ _ ⟨K, hK, c⟩ k => ⟨K, PySem.W.Frag.In.keeps hK k, c⟩
theorem obsXG_eq {n : Nat} {fa : List FaK} {fn : List He.DefD} {g : Addr → Option Obj} {s : Shared} (h : ∀ a, g a = s.heap.get? a) : obsXG n fa fn g = (hookX n fa fn).obs s := by
  have e : g = s.heap.get? := funext h
  rw [e] <;> rfl
section
variable {fa : List FaK} {fn : List He.DefD} {K : PySem.W.Frag}
theorem SaysX.fact (c : SaysX fa fn K) (i : Nat) {f : FaK} (h : fa[i]? = some f := by rfl) : f K = true := by
  have c1 := (He.ba (show ((fa.all fun f => f K) && fn.all fun d => d.ok K) = true from congrArg (fun z : He.AlD => z.1) c)).1
  exact List.all_eq_true.mp c1 f (List.mem_of_getElem? h)
theorem SaysX.def_ (c : SaysX fa fn K) (i : Nat) {d : He.DefD} (h : fn[i]? = some d := by rfl) : ∃ fd, FunD K d.name d.qual d.params d.body d.scope (d.dvs K) (d.kws K) (He.fAd K d.at_) fd := by
  have c2 := (He.ba (show ((fa.all fun f => f K) && fn.all fun d => d.ok K) = true from congrArg (fun z : He.AlD => z.1) c)).2
  have e : fn.map (fun d => He.fnW K d.at_) = fn.map He.DefD.val := congrArg (fun z : He.AlD => z.2) c
  have e2 : (fn.map fun d => He.fnW K d.at_)[i]? = (fn.map He.DefD.val)[i]? := by rw [e]
  rw [List.getElem?_map, List.getElem?_map, h] at e2
  exact He.DefD.funD (Option.some.inj e2) (List.all_eq_true.mp c2 d (List.mem_of_getElem? h))
end
/-! ### exception classes -/
def oexB (K : PySem.W.Frag) (C : Addr) : Bool := match K.lookup C with
  | some ⟨.type t, _, .cls cd, sl⟩ => decide (t = "type") && (match cd.mro, sl.toList with
    | .ref C' :: bm, [_, _, _, _, some (.builtin n), _] => decide (C' = C) && (decide (n = "ValueError.__new__") && (!cd.hasDel && (cd.hasDict && PySem.HandSPX.refsVE bm)))
    | _, _ => false)
  | _ => false
theorem oexB_ok {K : PySem.W.Frag} {C : Addr} (q : oexB K C = true) : ∃ nm q N bs bm sn sub ab col dd k0 k1 k2 k3 k5, K.lookup C = some (excClassObj nm q C N bs bm true sn sub ab col dd k0 k1 k2 k3 k5 "ValueError.__new__") ∧ PySem.HandSPX.refsVE bm = true := by
  unfold oexB at q
  split at q
  · rename_i t dd cd sl ho
    split at q
    · rename_i C' bm k0 k1 k2 k3 n k5 hm hs
      obtain ⟨q0, q⟩ := He.ba q
      obtain ⟨q1, q⟩ := He.ba q
      obtain ⟨q2, q⟩ := He.ba q
      obtain ⟨q3, q⟩ := He.ba q
      obtain ⟨q4, q5⟩ := He.ba q
      have e0 := of_decide_eq_true q0
      have e1 := of_decide_eq_true q1
      have e2 := of_decide_eq_true q2
      obtain ⟨nm, bs, mro, ns, qn, hd, sn, sub, ab, col, del⟩ := cd
      dsimp only at hm q3 q4
      have e3 : del = false := by
        cases del
        · rfl
        · cases q3
      subst hm e3 q4
      have hsl : sl = #[k0, k1, k2, k3, some (.builtin n), k5] := by
        obtain ⟨l⟩ := sl
        simp only at hs
        rw [hs]
      subst hsl
      rw [e0, e1, e2] at ho
      exact ⟨nm, qn, ns, bs, bm, sn, sub, ab, col, dd, k0, k1, k2, k3, k5, ho, q5⟩
    · obtain ⟨_, q⟩ := He.ba q
      cases q
  · cases q
/-- all that is asked of an exception class -/
def exkB (K : PySem.W.Frag) (C : Addr) : Bool :=
  He.eqO (PySem.W.findIn K (.ref C) "__setattr__") (some (some (.builtin "object.__setattr__"))) &&
  (decide (PySem.W.subIn K (.ref C) (.type "BaseException") = some true) &&
  (decide (PySem.W.typeIn K (.ref C) = some (.type "type")) &&
  (PySem.W.keepIn K (.ref C) &&
  (He.eqO (PySem.W.findIn K (.ref C) "__getattribute__") (some (some (.builtin "BaseException.__getattribute__"))) &&
  (He.eqO (PySem.W.findIn K (.ref C) "__getattr__") (some none) &&
  (PySem.W.hasDictIn K C &&
  (He.eqO (PySem.W.findIn K (.ref C) "__class__") (some (some (.builtin "object.__class__"))) &&
  (He.eqO (PySem.W.specialIn K (.builtin "object.__class__") "__get__") (some (some (.builtin "getset_descriptor.__get__"))) &&
  (decide (PySem.W.takesIn K (.builtin "object.__class__") = some true) &&
  decide (PySem.W.mroIn K C (.type "object") = some true))))))))))
structure Exk (K : PySem.W.Frag) (C : Addr) : Prop where
  sa : PySem.W.findIn K (.ref C) "__setattr__" = some (some (.builtin "object.__setattr__"))
  exC : PySem.W.subIn K (.ref C) (.type "BaseException") = some true
  tyC : PySem.W.typeIn K (.ref C) = some (.type "type")
  kC : PySem.W.keepIn K (.ref C) = true
  xf : XfC K C
  ec : ExcC K C
theorem exkB_ok {K : PySem.W.Frag} {C : Addr} (q : exkB K C = true) : Exk K C := by
  unfold exkB at q
  obtain ⟨h1, q⟩ := He.ba q
  obtain ⟨h2, q⟩ := He.ba q
  obtain ⟨h3, q⟩ := He.ba q
  obtain ⟨h4, q⟩ := He.ba q
  obtain ⟨h5, q⟩ := He.ba q
  obtain ⟨h6, q⟩ := He.ba q
  obtain ⟨h7, q⟩ := He.ba q
  obtain ⟨h8, q⟩ := He.ba q
  obtain ⟨h9, q⟩ := He.ba q
  obtain ⟨h10, h11⟩ := He.ba q
  have e2 := of_decide_eq_true h2
  exact ⟨He.eqO_ok h1, e2, of_decide_eq_true h3, h4, ⟨He.eqO_ok h5, He.eqO_ok h6, e2, h7⟩, ⟨He.eqO_ok h5, He.eqO_ok h6, e2, h7, He.eqO_ok h8, He.eqO_ok h9, of_decide_eq_true h10, of_decide_eq_true h11⟩⟩
theorem oex_of {K : PySem.W.Frag} {C : Addr} (q : oexB K C = true) (e : Exk K C) : OexC K C := ⟨oexB_ok q, e.sa, e.exC, e.tyC, e.kC⟩
/-! ### a global def that may be called -/
def Dn (P : Program) (w : World) (K : PySem.W.Frag) (mg : Str → Option Value) (base : Heap) (j : Nat) (x : Str) (ps : List Str) (sp : Sp) : Prop :=
  ∃ (f : Addr) (fd : FuncData), FnOk P w K mg base CX0 j f fd ps sp ∧ mg x = some (.ref f) ∧ PySem.W.keepIn K (.ref f) = true ∧ Binds K fd ps []
section
variable {X : Cx} {e : Expr} {es : List Expr} {t : TA} {p pos : Pos}
theorem pe_dn {k j : Nat} {x : Str} {ps : List Str} {sp : Sp} (D : Dn X.prog X.w X.K X.mg X.base j x ps sp) (hr : Room k X.A) (ha : PA X (e :: es) t) (hjk : j ≤ k := by decide) (hg : Gl X x := by rfl)
    (hdb : (x == ("__debug__" : Str)) = false := by decide) (he : starEach (e :: es) X.env = (false, eval e X.env) :: starEach es X.env := by rfl) (hpl : (backTo pos (starEach es X.env)).any (·.1) = false := by rfl) :
    PE X (.Call (.Name x p) (e :: es) [] pos) (tCall sp [] E0 t) := by
  obtain ⟨f, fd, G, hm, hk, hb⟩ := D
  exact pe_call G (hr.mono hjk) hg hm hk hb .nil pass0 ha hdb he hpl
end
end Z

set_option maxHeartbeats 4000000
namespace Z
open PySem PySem.Spec PyProof.Rows L2
/-! ### the head's facts, over all objects below a number (no search for what is reached: that costs more than all else) -/
def obsRG (n : Nat) (fa : List FaK) (fn : List He.DefD) (g : Addr → Option Obj) : He.AlD := obsX fa fn (He.frG g (List.range n))
def hookR (n : Nat) (fa : List FaK) (fn : List He.DefD) : PySem.W.Hook where
  α := He.AlD
  obs := fun s => obsRG n fa fn s.heap.get?
  val := fun _ => He.valD fn
  says := fun _ h => ∃ K : PySem.W.Frag, K.In h ∧ SaysX fa fn K
  of := fun _ _ e => ⟨_, He.frG_in, e⟩
  keeps := fun _ _ _ ⟨K, hK, c⟩ k => ⟨K, PySem.W.Frag.In.keeps hK k, c⟩
theorem obsRG_eq {n : Nat} {fa : List FaK} {fn : List He.DefD} {g : Addr → Option Obj} {s : Shared} (h : ∀ a, g a = s.heap.get? a) : obsRG n fa fn g = (hookR n fa fn).obs s := by
  have e : g = s.heap.get? := funext h
  rw [e] <;> rfl
end Z
namespace Z
theorem map3 {α β γ δ : Type} {o : Option α} {f : α → β} {g : α → γ} {h : α → δ} {a : β} {b : γ} {c : δ} (h1 : o.map f = some a) (h2 : o.map g = some b) (h3 : o.map h = some c) : o.map (fun x => (f x, g x, h x)) = some (a, b, c) := by
  cases o with
  | none => cases h1
  | some x =>
    cases h1
    cases h2
    cases h3
    rfl
end Z

set_option maxHeartbeats 4000000
namespace Z
open PySem PySem.Spec PyProof.Rows L2
/-! ### the pen -/
def penK (c : Addr) (a l : Int) : List (Key × V) := [(.inr "cells", .ref c), (.inr "at", .int a), (.inr "left", .int l)]
theorem key_ne {x y : Str} (h : ¬ x = y) : ¬ ((Sum.inr x : Key) = Sum.inr y) := fun q => h (Sum.inr.inj q)
theorem ca_ : ¬ (("cells" : Str) = "at") := by decide +kernel
theorem cl_ : ¬ (("cells" : Str) = "left") := by decide +kernel
theorem al_ : ¬ (("at" : Str) = "left") := by decide +kernel
theorem penK_cells (c : Addr) (a l : Int) : valV (penK c a l) (Sum.inr "cells" : Key) = some (.ref c) := valV_pos rfl
theorem penK_at (c : Addr) (a l : Int) : valV (penK c a l) (Sum.inr "at" : Key) = some (.int a) := by
  unfold penK
  rw [valV_neg (key_ne ca_)]
  exact valV_pos rfl
theorem penK_left (c : Addr) (a l : Int) : valV (penK c a l) (Sum.inr "left" : Key) = some (.int l) := by
  unfold penK
  rw [valV_neg (key_ne cl_), valV_neg (key_ne al_)]
  exact valV_pos rfl
theorem penK_put_at (c : Addr) (a l b : Int) : putK (penK c a l) (Sum.inr "at" : Key) (.int b) = penK c b l := by
  unfold putK
  rw [valV_any, penK_at, if_pos (show (some (V.int a)).isSome = true from rfl)]
  unfold penK
  simp only [List.map_cons, List.map_nil, if_neg (key_ne ca_), if_neg (key_ne (fun q => al_ q.symm)), if_true]
theorem penK_put_left (c : Addr) (a l b : Int) : putK (penK c a l) (Sum.inr "left" : Key) (.int b) = penK c a b := by
  unfold putK
  rw [valV_any, penK_left, if_pos (show (some (V.int l)).isSome = true from rfl)]
  unfold penK
  simp only [List.map_cons, List.map_nil, if_neg (key_ne cl_), if_neg (key_ne al_), if_true]
/-- a pen stands at p; at most t numbers were drawn -/
def Pen (H : Hp) (p : Addr) (t : Nat) : Prop := ∃ (c : Addr) (ns : List Int) (a l : Int), H p = some (.dK (penK c a l)) ∧ H c = some (.lst (ns.map V.int)) ∧ ns.length ≤ 63 ∧ 0 ≤ a ∧ a ≤ (t : Int) ∧ 0 ≤ l
/-- all but p is as it was -/
def Keep (p : Addr) (H H' : Hp) : Prop := ∀ a o, a ≠ p → H a = some o → H' a = some o
theorem Keep.refl (p : Addr) (H : Hp) : Keep p H H := fun _ _ _ h => h
theorem Keep.trans {p : Addr} {H H1 H2 : Hp} (a : Keep p H H1) (b : Keep p H1 H2) : Keep p H H2 := fun c o n h => b c o n (a c o n h)
theorem Keep.of {p : Addr} {H H' : Hp} (s : Same H H') : Keep p H H' := fun a o _ h => s a o h
theorem Keep.upd {p : Addr} {H H1 : Hp} (o : HO) (k : Keep p H H1) : Keep p H (upd H1 p o) := fun a u n h => by
  rw [upd_ne n]
  exact k a u n h
theorem Keep.new {p l : Addr} {H H1 : Hp} (o : HO) (k : Keep p H H1) (hl : H1 l = none) : Keep p H (L2.upd H1 l o) := fun a u n h => by
  have q := k a u n h
  rw [upd_ne (ne_of_none q hl)]
  exact q
theorem Same.new {l : Addr} {H H1 : Hp} (o : HO) (k : Same H H1) (hl : H1 l = none) : Same H (upd H1 l o) := fun a u h => by
  have q := k a u h
  rw [upd_ne (ne_of_none q hl)]
  exact q
theorem Pen.mono {H : Hp} {p : Addr} {t t' : Nat} (h : Pen H p t) (e : t ≤ t') : Pen H p t' := by
  obtain ⟨c, ns, a, l, h1, h2, h3, h4, h5, h6⟩ := h
  exact ⟨c, ns, a, l, h1, h2, h3, h4, by omega, h6⟩
/-- a pen is not touched where all stands -/
theorem Pen.same {H H' : Hp} {p : Addr} {t : Nat} (h : Pen H p t) (s : Same H H') : Pen H' p t := by
  obtain ⟨c, ns, a, l, h1, h2, h3⟩ := h
  exact ⟨c, ns, a, l, s _ _ h1, s _ _ h2, h3⟩
/-- what is no dict is not the pen -/
theorem Pen.ne {H : Hp} {p a : Addr} {t : Nat} {o : HO} (h : Pen H p t) (e : H a = some o) (d : ∀ kvs, o ≠ .dK kvs) : a ≠ p := by
  obtain ⟨c, ns, x, l, h1, _⟩ := h
  exact ne_of e h1 (d _)
def spPen (K : PySem.W.Frag) : Sp := fun vs H Q _ => ∃ (a : Addr) (ns : List Int), vs = [.ref a] ∧ SqL K H a (ns.map V.int) ∧ ns.length ≤ 63 ∧ ∀ H' p, Same H H' → H p = none → Pen H' p 0 → Q (.ref p) H'
def spDraw : Sp := fun vs H Q _ => ∃ (p : Addr) (m : Int) (t : Nat), vs = [.ref p, .int m] ∧ 0 < m ∧ m < 1073741824 ∧ t < 1000000000 ∧ Pen H p t ∧ ∀ H' (d : Int), 0 ≤ d → d < m → Pen H' p (t + 1) → Keep p H H' → Q (.int d) H'
def spPick : Sp := fun vs H Q _ => ∃ (p l : Addr) (xs : List V) (t : Nat), vs = [.ref p, .ref l] ∧ H l = some (.lst xs) ∧ 0 < xs.length ∧ xs.length < 1000 ∧ t < 1000000000 ∧ Pen H p t ∧
  ∀ H' (i : Nat) (v : V), xs[i]? = some v → Pen H' p (t + 1) → Keep p H H' → Q v H'
/-! ### small readings -/
theorem fmod_range {x m : Int} (h : 0 < m) : 0 ≤ x.fmod m ∧ x.fmod m < m := by
  rw [Int.fmod_eq_emod_of_nonneg _ (Int.le_of_lt h)]
  exact ⟨Int.emod_nonneg _ (by omega), Int.emod_lt_of_pos _ h⟩
theorem fdiv_nn {x m : Int} (hx : 0 ≤ x) (h : 0 < m) : 0 ≤ x.fdiv m := by
  rw [Int.fdiv_eq_ediv_of_nonneg _ (Int.le_of_lt h)]
  exact Int.ediv_nonneg hx (Int.le_of_lt h)
theorem mul_okf {x m : Int} (h : 0 < m) (hm : m ≤ 2147483648) : -(2 ^ 64) < x.fmod m ∧ x.fmod m < 2 ^ 64 := by
  have := fmod_range (x := x) h
  omega
theorem mul_okf1 {x m : Int} (h : 0 < m) (hm : m ≤ 2147483648) : -(2 ^ 64) < x.fmod m + 1 ∧ x.fmod m + 1 < 2 ^ 64 := by
  have := fmod_range (x := x) h
  omega
section
variable {H : Hp} {p c : Addr} {a l b : Int}
theorem pen_left (h : H p = some (.dK (penK c a l))) : DGet H p (.str "left") (some (.int l)) := by
  have z := DGet.k (k := (Sum.inr "left" : Key)) h
  rw [penK_left] at z
  exact z
theorem pen_at (h : H p = some (.dK (penK c a l))) : DGet H p (.str "at") (some (.int a)) := by
  have z := DGet.k (k := (Sum.inr "at" : Key)) h
  rw [penK_at] at z
  exact z
theorem pen_cells (h : H p = some (.dK (penK c a l))) : DGet H p (.str "cells") (some (.ref c)) := by
  have z := DGet.k (k := (Sum.inr "cells" : Key)) h
  rw [penK_cells] at z
  exact z
theorem pen_put_left (b : Int) (h : H p = some (.dK (penK c a l))) : DPut H p (.str "left") (.int b) (upd H p (.dK (penK c a b))) := by
  have z := DPut.k (k := (Sum.inr "left" : Key)) (v := .int b) h (show 3 < sizeLine by decide)
  rw [penK_put_left] at z
  exact z
theorem pen_put_at (b : Int) (h : H p = some (.dK (penK c a l))) : DPut H p (.str "at") (.int b) (upd H p (.dK (penK c b l))) := by
  have z := DPut.k (k := (Sum.inr "at" : Key)) (v := .int b) h (show 3 < sizeLine by decide)
  rw [penK_put_at] at z
  exact z
end
theorem lst_ne_dK {xs : List V} {kvs : List (Key × V)} : HO.lst xs ≠ .dK kvs := fun z => by cases z
/-- data: a list of ints -/
theorem dpAll_ints {K : PySem.W.Frag} {H : Hp} : ∀ ns : List Int, DpAll K H (ns.map V.int) (ns.map PyData.int)
  | [] => .nil
  | _ :: ns => .cons (.int _) (dpAll_ints ns)
theorem canLay_ints : ∀ ns : List Int, PyData.canLayAll0 (ns.map PyData.int) = true
  | [] => by simp [PyData.canLayAll0]
  | _ :: ns => by simp [PyData.canLayAll0, PyData.canLay0, canLay_ints ns]
theorem depth_ints : ∀ ns : List Int, PyData.depthAll (ns.map PyData.int) = 0
  | [] => by simp [PyData.depthAll]
  | _ :: ns => by simp [PyData.depthAll, PyData.depth, depth_ints ns]
theorem shaped_ints (ns : List Int) : SeqAt.shaped (.list (ns.map PyData.int)) = true := by
  simp [SeqAt.shaped, PyData.canLay0, canLay_ints, PyData.depth, depth_ints]
theorem shaped_nil : SeqAt.shaped (.list []) = true := shaped_ints []
theorem eqv_ints_nil (ns : List Int) : PyData.eqv (.list (ns.map PyData.int)) (.list []) = ns.isEmpty := by
  cases ns <;> simp [PyData.eqv, PyData.eqvAll]
theorem get_ints {ns : List Int} {i : Nat} (h : i < ns.length) : (ns.map V.int)[i]? = some (.int (ns[i]'h)) := by
  rw [List.getElem?_map, List.getElem?_eq_getElem h]
  rfl
end Z

set_option maxHeartbeats 4000000
namespace Z
open PySem PySem.W PySem.Calls PyProof.Rows
/-! ### operators of own classes -/
section
/-- an int's own operator does not take an instance -/
theorem mul_no (a : Int) (t : Tok) (l C dx : Addr) :
    Meets (Builtin.«int.__mul__» ⟨[.int a t, .ref l], []⟩) (fun _ R s => s.heap.get? l = some (instObj C dx) ∧ R (.ok (.ret Value.notImplemented)) s) :=
  .of_wp fun prog w A R s h => by
    obtain ⟨hp, g, d, tk, os⟩ := s
    obtain ⟨hl, h⟩ := h
    wp_walk
    exact ⟨_, rfl, h⟩
theorem add_no (a : Int) (t : Tok) (l C dx : Addr) :
    Meets (Builtin.«int.__add__» ⟨[.int a t, .ref l], []⟩) (fun _ R s => s.heap.get? l = some (instObj C dx) ∧ R (.ok (.ret Value.notImplemented)) s) :=
  .of_wp fun prog w A R s h => by
    obtain ⟨hp, g, d, tk, os⟩ := s
    obtain ⟨hl, h⟩ := h
    wp_walk
    exact ⟨_, rfl, h⟩
theorem sub_no (a : Int) (t : Tok) (l C dx : Addr) :
    Meets (Builtin.«int.__sub__» ⟨[.int a t, .ref l], []⟩) (fun _ R s => s.heap.get? l = some (instObj C dx) ∧ R (.ok (.ret Value.notImplemented)) s) :=
  .of_wp fun prog w A R s h => by
    obtain ⟨hp, g, d, tk, os⟩ := s
    obtain ⟨hl, h⟩ := h
    wp_walk
    exact ⟨_, rfl, h⟩
end
section
variable {prog : Program} {w : World} {A : Around} {E : Value → Shared → Prop} {s : Shared} {K : Frag} {x y C f : Addr} {ox oy : Obj} {od oe : Option Obj}
theorem own_binop {op : Operator} {Q : Value → Shared → Prop} (X : K.In s.heap) (I : InstAt s.heap x ox C od) (J : InstAt s.heap y oy C oe) (hc : selfFirst K C = true)
    (hs : findIn K (.ref C) (PySem.dunder op.info.2) = some (some (.ref f))) (hf : isFn K (.ref f) = true)
    (h : wpAny (model prog w) A (call (.ref f) [.ref x, .ref y]) (PySem.W.CmpBack Q) E s) : wpAny (model prog w) A (binaryOp op (.ref x) (.ref y)) Q E s := by
  obtain ⟨cd, rest, hcd, hm⟩ := ksp_first hc
  rcases hi : op.info with ⟨sym, nm'⟩
  rw [hi] at hs
  dsimp only at hs
  have one := ksp_try X I hs hf h
  obtain ⟨hh, g, d, tt, os⟩ := s
  have L1 : Looks (model prog w) hh (typeOf (.ref x)) (.ref C) := I.type
  have L2 : Looks (model prog w) hh (typeOf (.ref y)) (.ref C) := J.type
  have L3 : Looks (model prog w) hh (fillsNumberSlot (.ref C) nm') true := fills_K X hcd hm hs
  have heq : (Value.ref C == Value.ref C) = true := beq_self_eq_true _
  simp only [binaryOp, hi]
  refine wpAny_holding (wpAny_bind ?_)
  unfold binaryOp1
  refine wpAny_bind (L1.at (wpAny_bind (L2.at (wpAny_bind (L3.at ?_)))))
  simp only [heq, if_true]
  ksp_lk
  refine wpAny_mono one (fun r s' hr' => ?_) fun _ _ e => e
  obtain ⟨v, rfl, hq⟩ := hr'
  ksp_lk
  exact hq
theorem refl_binop {op : Operator} {a : Int} {t : Tok} {id : String} {Q : Value → Shared → Prop} (X : K.In s.heap) (I : InstAt s.heap x ox C od) (hc : selfFirst K C = true)
    (hs0 : findIn K (.ref C) (PySem.dunder op.info.2) = some (some (.ref y)))
    (hs : findIn K (.ref C) (dunderR op.info.2) = some (some (.ref f))) (hf : isFn K (.ref f) = true) (hsub : subIn K (.ref C) (.type "int") = some false)
    (hfill : fillsNumberSlot (.type "int") op.info.2 = pure true) (hl : Slot "int" (dunder op.info.2) id)
    (hno : wpAny (model prog w) A (call (.builtin id) [.int a t, .ref x]) (fun v s' => v = .notImplemented ∧ s' = s) E s)
    (h : wpAny (model prog w) A (call (.ref f) [.ref x, .int a t]) (PySem.W.CmpBack Q) E s) : wpAny (model prog w) A (binaryOp op (.int a t) (.ref x)) Q E s := by
  obtain ⟨cd, rest, hcd, hm⟩ := ksp_first hc
  rcases hi : op.info with ⟨sym, nm'⟩
  rw [hi] at hs hs0 hfill hl
  dsimp only at hs hs0 hfill hl
  have one := ksp_try X I hs hf h
  have two : wpAny (model prog w) A (tryMethod (.int a t) (dunder nm') (.ref x)) (fun r s' => r = none ∧ s' = s) E s :=
    wpAny_tryMethod_declines (s := s) (T := "int") rfl hl (wpAny_mono hno (fun v s' z => ⟨z.1, rfl, z.2⟩) fun _ _ e => e)
  obtain ⟨hh, g, d, tt, os⟩ := s
  have L1 : Looks (model prog w) hh (typeOf (.int a t)) (.type "int") := Looks.of_pure rfl
  have L2 : Looks (model prog w) hh (typeOf (.ref x)) (.ref C) := I.type
  have L3 : Looks (model prog w) hh (fillsNumberSlot (.ref C) nm') true := fills_K X hcd hm hs0
  have L4 : Looks (model prog w) hh (fillsNumberSlot (.type "int") nm') true := Looks.of_pure hfill
  have L5 : Looks (model prog w) hh (isSubtype (.ref C) (.type "int")) false := looks_subIn X hsub
  have L6 : Looks (model prog w) hh (numberSlotInPython (.type "int") nm') false := Looks.of_pure rfl
  have hne : (Value.type "int" == Value.ref C) = false := Bool.eq_false_iff.mpr fun q => by cases beq_iff_eq.mp q
  simp only [binaryOp, hi]
  refine wpAny_holding (wpAny_bind ?_)
  unfold binaryOp1
  refine wpAny_bind (L1.at (wpAny_bind (L2.at (wpAny_bind (L4.at ?_)))))
  simp only [hne, Bool.false_eq_true, if_false]
  ksp_lk
  refine wpAny_mono two (fun r s' hr' => ?_) fun _ _ e => e
  obtain ⟨rfl, rfl⟩ := hr'
  ksp_lk
  refine wpAny_mono one (fun r s' hr' => ?_) fun _ _ e => e
  obtain ⟨v, rfl, hq⟩ := hr'
  ksp_lk
  exact hq
end
end Z

set_option maxHeartbeats 4000000
namespace Z
open PySem PySem.Spec PyProof.Rows L2
section
variable {prog : Program} {w : World} {A : Around} {E : Value → Shared → Prop} {s : Shared} {x C dx : Addr}
theorem mul_no_call (a : Int) (t : Tok) (h : s.heap.get? x = some (PySem.W.instObj C dx)) : wpAny (model prog w) A (call (.builtin "int.__mul__") [.int a t, .ref x]) (fun v s' => v = .notImplemented ∧ s' = s) E s :=
  call_meets PySem.F.slot_int_mul (s := s) rfl PySem.F.entry_int_mul (PySem.F.args_int_mul_2 _ _) (mul_no a t x C dx) ⟨h, rfl, rfl⟩
end
/-- what is asked of a class whose instances stand beside ints -/
def opiB (K : PySem.W.Frag) (C : Addr) (nm : String) : Bool :=
  PySem.W.selfFirst K C && ((match PySem.W.findIn K (.ref C) (dunderR nm) with
    | some none => true
    | some (some (.ref _)) => true
    | _ => false) && ((PySem.W.findIn K (.type "int") (dunder nm)).isSome && ((PySem.W.findIn K (.type "int") (dunderR nm)).isSome && (decide (PySem.W.subIn K (.type "int") (.ref C) = some false) && decide (PySem.W.subIn K (.ref C) (.type "int") = some false)))))
structure OpI (K : PySem.W.Frag) (C : Addr) (nm : String) : Prop where
  sf : PySem.W.selfFirst K C = true
  rr : ∃ rc, PySem.W.findIn K (.ref C) (dunderR nm) = some rc ∧ (rc = none ∨ ∃ g : Addr, rc = some (.ref g))
  i1 : ∃ fo, PySem.W.findIn K (.type "int") (dunder nm) = some fo
  i2 : ∃ fo, PySem.W.findIn K (.type "int") (dunderR nm) = some fo
  s1 : PySem.W.subIn K (.type "int") (.ref C) = some false
  s2 : PySem.W.subIn K (.ref C) (.type "int") = some false
theorem opiB_ok {K : PySem.W.Frag} {C : Addr} {nm : String} (h : opiB K C nm = true) : OpI K C nm := by
  obtain ⟨h1, h⟩ := He.ba h
  obtain ⟨h2, h⟩ := He.ba h
  obtain ⟨h3, h⟩ := He.ba h
  obtain ⟨h4, h⟩ := He.ba h
  obtain ⟨h5, h6⟩ := He.ba h
  refine ⟨h1, ?_, Option.isSome_iff_exists.mp h3, Option.isSome_iff_exists.mp h4, of_decide_eq_true h5, of_decide_eq_true h6⟩
  cases e : PySem.W.findIn K (.ref C) (dunderR nm) with
  | none =>
    rw [e] at h2
    cases h2
  | some o =>
    rw [e] at h2
    cases o with
    | none => exact ⟨_, rfl, .inl rfl⟩
    | some v =>
      cases v with
      | ref g => exact ⟨_, rfl, .inr ⟨g, rfl⟩⟩
      | _ => cases h2
/-- a method that the class itself has, and its promise -/
def Om (P : Program) (w : World) (K : PySem.W.Frag) (mg : Str → Option Value) (base : Heap) (C : Addr) (k : Nat) (name : Str) (sp : Sp) : Prop :=
  ∃ (f : Addr) (fd : FuncData) (ps : List Str), FnOk P w K mg base CX0 k f fd ps sp ∧ PySem.W.findIn K (.ref C) name = some (some (.ref f)) ∧ PySem.W.isFn K (.ref f) = true ∧ Binds K fd ps []
theorem not_ni {v : V} {u : Value} (r : RelV v u) : u ≠ .notImplemented := by
  intro e
  subst e
  cases v with
  | non => cases r
  | bl b => cases r
  | int i => obtain ⟨_, r⟩ := r; cases r
  | str x => obtain ⟨_, r⟩ := r; cases r
  | byt b => obtain ⟨_, r⟩ := r; cases r
  | flt b => obtain ⟨_, r⟩ := r; cases r
  | ref a => cases r
  | ty n => cases r
section
variable {X : Cx}
theorem back_of {pins : List (Addr × Obj)} {σ : L2.St} {Q : VK} {u : Value} {s' : Shared} (h : EP X pins σ Q u s') : PySem.W.CmpBack (EP X pins σ Q) u s' := by
  obtain ⟨v, H', I, r, q⟩ := h
  have n := not_ni r
  cases u <;> first | exact absurd rfl n | exact ⟨v, H', I, r, q⟩
theorem om_run {pins : List (Addr × Obj)} {σ : L2.St} {H : Hp} {s : Shared} {Q : VK} {us : List Value} {vs : List V} {k : Nat} {f : Addr} {fd : FuncData} {ps : List Str} {sp : Sp} (F : FnOk X.prog X.w X.K X.mg X.base CX0 k f fd ps sp) (hb : Binds X.K fd ps []) (hr : Room k X.A)
    (I : L2.Inv X pins σ H s) (r : Vals vs us) (h : sp vs H Q E0) : wpAny (model X.prog X.w) X.A (call (.ref f) us) (PySem.W.CmpBack (EP X pins σ Q)) X.xe s := by
  have h2 : sp (vs ++ []) H Q E0 := by
    rw [List.append_nil]
    exact h
  exact wpAny_mono (run_fn F hr hb .nil pass0 I r h2) (fun u s' q => back_of q) fun _ _ z => z
theorem ins_at {pins : List (Addr × Obj)} {σ : L2.St} {H : Hp} {s : Shared} {a C dx : Addr} {fs : List (Str × V)} (I : L2.Inv X pins σ H s) (e : H a = some (.ins C dx fs)) : ∃ od, PySem.W.InstAt s.heap a (PySem.W.instObj C dx) C (some od) := by
  obtain ⟨mA, O, _⟩ := ins_get I.hok e
  obtain ⟨od, J, _⟩ := O.look
  exact ⟨od, J⟩
/-- x op y, both of the class C -/
def rOwn (C : Addr) (sp : Sp) : R2 := fun x y H Q => ∃ (a b dx dy : Addr) (fs gs : List (Str × V)), x = .ref a ∧ y = .ref b ∧ H a = some (.ins C dx fs) ∧ H b = some (.ins C dy gs) ∧ sp [x, y] H Q E0
theorem op_own {op : Operator} {C : Addr} {k j : Nat} {sp : Sp} (O : Om X.prog X.w X.K X.mg X.base C j (dunder op.info.2) sp) (T : OpI X.K C op.info.2) (hr : Room k X.A) (hjk : j ≤ k := by decide) : OpR X (binaryOp op) (rOwn C sp) := by
  intro pins s σ H x y v u Q I rx ry h
  obtain ⟨a, b, dx, dy, fs, gs, rfl, rfl, ha, hb, q⟩ := h
  obtain ⟨f, fd, ps, F, hs, hf, hbd⟩ := O
  have rr : Vals [V.ref a, V.ref b] [v, u] := .cons rx (.cons ry .nil)
  cases (show v = Value.ref a from rx)
  cases (show u = Value.ref b from ry)
  obtain ⟨od, J⟩ := ins_at I ha
  obtain ⟨oe, J'⟩ := ins_at I hb
  exact own_binop I.kIn J J' T.sf hs hf (om_run F hbd (hr.mono hjk) I rr q)
/-- x op k, x of the class C, k an int -/
def rOwnI (C : Addr) (sp : Sp) : R2 := fun x y H Q => ∃ (a dx : Addr) (fs : List (Str × V)) (i : Int), x = .ref a ∧ y = .int i ∧ H a = some (.ins C dx fs) ∧ sp [x, y] H Q E0
theorem op_ownI {op : Operator} {C : Addr} {k j : Nat} {sp : Sp} (O : Om X.prog X.w X.K X.mg X.base C j (dunder op.info.2) sp) (T : OpI X.K C op.info.2) (hr : Room k X.A) (hjk : j ≤ k := by decide) : OpR X (binaryOp op) (rOwnI C sp) := by
  intro pins s σ H x y v u Q I rx ry h
  obtain ⟨a, dx, fs, i, rfl, rfl, ha, q⟩ := h
  obtain ⟨f, fd, ps, F, hs, hf, hbd⟩ := O
  have rr : Vals [V.ref a, V.int i] [v, u] := .cons rx (.cons ry .nil)
  cases (show v = Value.ref a from rx)
  obtain ⟨t, rfl⟩ := (show ∃ t, u = Value.int i t from ry)
  obtain ⟨od, J⟩ := ins_at I ha
  obtain ⟨m, hF⟩ := I.fr
  obtain ⟨rc, hrc, hp⟩ := T.rr
  obtain ⟨fo, h1⟩ := T.i1
  obtain ⟨ro, h2⟩ := T.i2
  exact PySem.W.ksp_binT hF I.ok.mod.kin J rfl T.sf hs hf hrc hp h1 h2 T.s1 (om_run F hbd (hr.mono hjk) I rr q)
/-- k * x, k an int, x of the class C -/
def rRefl (C : Addr) (sp : Sp) : R2 := fun x y H Q => ∃ (a dx : Addr) (fs : List (Str × V)) (i : Int), x = .int i ∧ y = .ref a ∧ H a = some (.ins C dx fs) ∧ sp [y, x] H Q E0
theorem op_reflMul {C : Addr} {k j j0 : Nat} {sp sp0 : Sp} (O0 : Om X.prog X.w X.K X.mg X.base C j0 (dunder "mul") sp0) (O : Om X.prog X.w X.K X.mg X.base C j (dunderR "mul") sp) (T : OpI X.K C "mul") (hr : Room k X.A) (hjk : j ≤ k := by decide) : OpR X (binaryOp .Mult) (rRefl C sp) := by
  intro pins s σ H x y v u Q I rx ry h
  obtain ⟨a, dx, fs, i, rfl, rfl, ha, q⟩ := h
  obtain ⟨f, fd, ps, F, hs, hf, hbd⟩ := O
  obtain ⟨f0, _, _, _, hs0, _, _⟩ := O0
  have rr : Vals [V.ref a, V.int i] [u, v] := .cons ry (.cons rx .nil)
  obtain ⟨t, rfl⟩ := (show ∃ t, v = Value.int i t from rx)
  cases (show u = Value.ref a from ry)
  obtain ⟨od, J⟩ := ins_at I ha
  exact refl_binop (op := .Mult) I.kIn J T.sf hs0 hs hf T.s2 PySem.F.fills_int_mul PySem.F.slot_int_mul (mul_no_call i t J.1) (om_run F hbd (hr.mono hjk) I rr q)
/-- x == y, x of the class C with its own == -/
def rEqOwn (K : PySem.W.Frag) (C : Addr) (sp : Sp) : R2 := fun x y H Q => ∃ (a dx : Addr) (fs : List (Str × V)) (t : Value), x = .ref a ∧ H a = some (.ins C dx fs) ∧ TyOf K H y t ∧ PySem.W.notFirst K C t = true ∧ sp [x, y] H Q E0
theorem ty_looks {pins : List (Addr × Obj)} {σ : L2.St} {H : Hp} {s : Shared} {y : V} {u t : Value} (I : L2.Inv X pins σ H s) (ry : RelV y u) (ty : TyOf X.K H y t) : PySem.W.Looks (model X.prog X.w) s.heap (typeOf u) t := by
  obtain ⟨P, Z, p, _⟩ := kit_of I ry (.base ty)
  exact Z.ty _ _ I.kIn p
theorem op_eqOwn {C : Addr} {k j : Nat} {sp : Sp} (O : Om X.prog X.w X.K X.mg X.base C j "__eq__" sp) (hr : Room k X.A) (hjk : j ≤ k := by decide) : OpR X (compareOp .Eq) (rEqOwn X.K C sp) := by
  intro pins s σ H x y v u Q I rx ry h
  obtain ⟨a, dx, fs, t, rfl, ha, ty, hn, q⟩ := h
  obtain ⟨f, fd, ps, F, hs, hf, hbd⟩ := O
  have rr : Vals [V.ref a, y] [v, u] := .cons rx (.cons ry .nil)
  cases (show v = Value.ref a from rx)
  obtain ⟨od, J⟩ := ins_at I ha
  obtain ⟨m, hF⟩ := I.fr
  show wpAny (model X.prog X.w) X.A (richCompare .Eq (.ref a) u) (EP X pins σ Q) X.xe s
  exact PySem.W.cmp_K (op := .Eq) hr.units0 hF I.ok.mod.kin J (ty_looks I ry ty) hn hs hf (om_run F hbd (hr.mono hjk) I rr q)
end
end Z

set_option maxHeartbeats 4000000
namespace Z
open PySem PySem.Spec PyProof.Rows L2
/-! ### sums and places as objects -/
theorem look_hd {f : Str} {v : V} {r : List (Str × V)} : List.lookup f ((f, v) :: r) = some v := by simp [List.lookup]
theorem look_tl {f g : Str} {v : V} {r : List (Str × V)} (h : ¬ f = g) : List.lookup f ((g, v) :: r) = List.lookup f r := by
  have e : (f == g) = false := by simpa using h
  simp [List.lookup, e]
theorem at_upd {H : Hp} {t l : Addr} {u : HO} (o : HO) (h : H t = some u) (hl : H l = none) : (upd H l o) t = some u := by
  rw [upd_ne (ne_of_none h hl)]
  exact h
theorem Same.keep {H H1 H' : Hp} {a : Addr} {o : HO} (s : Same H H1) (ha : H1 a = none) (kp : Keep a (upd H1 a o) H') : Same H H' := fun b u e => by
  have q := s b u e
  have nb : b ≠ a := ne_of_none q ha
  exact kp b u nb (by rw [upd_ne nb]; exact q)
/-- behind a new instance -/
theorem Same.made {H H1 H' : Hp} {x dx C : Addr} (s : Same H H1) (nx : H1 x = none) (nd : H1 dx = none) (kp : Keep x (upd (upd H1 dx (.own x)) x (.ins C dx [])) H') : Same H H' := fun b u e => by
  have q := s b u e
  have nb : b ≠ x := ne_of_none q nx
  have nd' : b ≠ dx := ne_of_none q nd
  exact kp b u nb (by rw [upd_ne nb, upd_ne nd']; exact q)
theorem in_ : ¬ (("i" : Str) = "n") := by decide +kernel
theorem io_ : ¬ (("i" : Str) = "one") := by decide +kernel
theorem no_ : ¬ (("n" : Str) = "one") := by decide +kernel
theorem sd_ : ¬ (("straight" : Str) = "divisor") := by decide +kernel
theorem len1 (f : Str) (v : V) : (putF f v []).length < 1000 := Nat.lt_of_le_of_lt (length_putF f v []) (by decide)
theorem len2 (f g : Str) (v u : V) : (putF f v (putF g u [])).length < 1000 := Nat.lt_of_le_of_lt (Nat.le_trans (length_putF f v _) (Nat.add_le_add_right (length_putF g u []) 1)) (by decide)
def sf (a b c : Int) : List (Str × V) := putF "one" (.int c) (putF "n" (.int b) (putF "i" (.int a) []))
theorem sf_i (a b c : Int) : (sf a b c).lookup ("i" : Str) = some (.int a) := by
  unfold sf
  rw [lookup_putF, if_neg io_, lookup_putF, if_neg in_, lookup_putF, if_pos rfl]
theorem sf_n (a b c : Int) : (sf a b c).lookup ("n" : Str) = some (.int b) := by
  unfold sf
  rw [lookup_putF, if_neg no_, lookup_putF, if_pos rfl]
theorem sf_one (a b c : Int) : (sf a b c).lookup ("one" : Str) = some (.int c) := by
  unfold sf
  rw [lookup_putF, if_pos rfl]
theorem sf_no (a b c : Int) {m : Str} (h1 : ¬ m = "i") (h2 : ¬ m = "n") (h3 : ¬ m = "one") : (sf a b c).lookup m = none := by
  unfold sf
  rw [lookup_putF, if_neg h3, lookup_putF, if_neg h2, lookup_putF, if_neg h1]
  rfl
def pf (q : Addr) (d : Int) : List (Str × V) := putF "divisor" (.int d) (putF "straight" (.ref q) [])
theorem pf_s (q : Addr) (d : Int) : (pf q d).lookup ("straight" : Str) = some (.ref q) := by
  unfold pf
  rw [lookup_putF, if_neg sd_, lookup_putF, if_pos rfl]
theorem pf_d (q : Addr) (d : Int) : (pf q d).lookup ("divisor" : Str) = some (.int d) := by
  unfold pf
  rw [lookup_putF, if_pos rfl]
theorem pf_no (q : Addr) (d : Int) {m : Str} (h1 : ¬ m = "straight") (h2 : ¬ m = "divisor") : (pf q d).lookup m = none := by
  unfold pf
  rw [lookup_putF, if_neg h2, lookup_putF, if_neg h1]
  rfl
section
variable (K : PySem.W.Frag)
abbrev CS : Addr := He.ga K "Straight"
abbrev CP : Addr := He.ga K "Place"
def StrAt (H : Hp) (p : Addr) (a b c : Int) : Prop := ∃ dx, H p = some (.ins (CS K) dx (sf a b c))
def PlcAt (H : Hp) (p : Addr) (a b c d : Int) : Prop := ∃ dx q, H p = some (.ins (CP K) dx (pf q d)) ∧ StrAt K H q a b c
/-- a sum, or an int in its place -/
def SumV (H : Hp) (v : V) (a b c : Int) : Prop := (∃ p, v = .ref p ∧ StrAt K H p a b c) ∨ (v = .int c ∧ a = 0 ∧ b = 0)
end
variable {K : PySem.W.Frag}
theorem StrAt.same {H H' : Hp} {p : Addr} {a b c : Int} (h : StrAt K H p a b c) (s : Same H H') : StrAt K H' p a b c := by
  obtain ⟨dx, h⟩ := h
  exact ⟨dx, s _ _ h⟩
theorem PlcAt.same {H H' : Hp} {p : Addr} {a b c d : Int} (h : PlcAt K H p a b c d) (s : Same H H') : PlcAt K H' p a b c d := by
  obtain ⟨dx, q, h, h2⟩ := h
  exact ⟨dx, q, s _ _ h, h2.same s⟩
theorem SumV.same {H H' : Hp} {v : V} {a b c : Int} (h : SumV K H v a b c) (s : Same H H') : SumV K H' v a b c := by
  rcases h with ⟨p, e, h⟩ | h
  · exact .inl ⟨p, e, h.same s⟩
  · exact .inr h
theorem StrAt.keep {H H' : Hp} {p q : Addr} {a b c : Int} {t : Nat} (h : StrAt K H p a b c) (hp : Pen H q t) (k : Keep q H H') : StrAt K H' p a b c := by
  obtain ⟨dx, h⟩ := h
  exact ⟨dx, k _ _ (hp.ne h fun _ z => by cases z) h⟩
theorem PlcAt.keep {H H' : Hp} {p q : Addr} {a b c d : Int} {t : Nat} (h : PlcAt K H p a b c d) (hp : Pen H q t) (k : Keep q H H') : PlcAt K H' p a b c d := by
  obtain ⟨dx, r, h, h2⟩ := h
  exact ⟨dx, r, k _ _ (hp.ne h fun _ z => by cases z) h, h2.keep hp k⟩
/-- small enough to be multiplied by anything -/
def Sm (i : Int) : Prop := -(2 ^ 64) < i ∧ i < 2 ^ 64
/-! ### what the program's text says of the classes -/
structure Inx (K : PySem.W.Frag) (C : Addr) : Prop where
  ha : PySem.W.findIn K (.ref C) "__class__" = some (some (.builtin "object.__class__"))
  hn : PySem.W.specialIn K (.builtin "object.__class__") "__get__" = some (some (.builtin "getset_descriptor.__get__"))
  ht : PySem.W.takesIn K (.builtin "object.__class__") = some true
  hm : PySem.W.mroIn K C (.type "object") = some true
structure StTx (K : PySem.W.Frag) (mg : Str → Option Value) : Prop where
  gS : mg "Straight" = some (.ref (CS K))
  clS : Cls K (CS K)
  mkS : Mk K (CS K) (He.ma K (CS K) "__init__")
  ixS : Inx K (CS K)
  nI : NoAttr K (CS K) "i"
  nN : NoAttr K (CS K) "n"
  nO : NoAttr K (CS K) "one"
  kSi : PySem.W.kitOne K (.ref (CS K)) (.type "int") = some false
  kSS : PySem.W.kitOne K (.ref (CS K)) (.ref (CS K)) = some true
  kiS : PySem.W.kitOne K (.type "int") (.ref (CS K)) = some false
  isi : mg "isinstance" = none
  int : mg "int" = none
  bool : mg "bool" = none
theorem StTx.ty {mg : Str → Option Value} (T : StTx K mg) {H : Hp} {p : Addr} {a b c : Int} (h : StrAt K H p a b c) : TyOf K H (.ref p) (.ref (CS K)) := by
  obtain ⟨dx, h⟩ := h
  exact .ins h T.clS T.ixS.ha T.ixS.hn T.ixS.ht T.ixS.hm
theorem kii {K : PySem.W.Frag} : PySem.W.kitOne K (.type "int") (.type "int") = some true := kit_ty (by decide +kernel)
theorem kib {K : PySem.W.Frag} : PySem.W.kitOne K (.type "int") (.type "bool") = some false := kit_ty (by decide +kernel)
/-! ### promises -/
section
variable (K : PySem.W.Frag)
def spSI : Sp := fun vs H Q _ => ∃ (p dx : Addr) (a b c : Int), vs = [.ref p, .int a, .int b, .int c] ∧ H p = some (.ins (CS K) dx []) ∧ ∀ H', H' p = some (.ins (CS K) dx (sf a b c)) → Keep p H H' → Q .non H'
/-- a new sum is handed back -/
def NewS (H : Hp) (a b c : Int) (Q : VK) : Prop := ∀ p H', Same H H' → H p = none → StrAt K H' p a b c → Q (.ref p) H'
def spIsInt : Sp := fun vs H Q _ => ∃ v, vs = [v] ∧ ((∃ i, v = .int i ∧ Q (.bl true) H) ∨ ∃ p a b c, v = .ref p ∧ StrAt K H p a b c ∧ Q (.bl false) H)
def spIsStr : Sp := fun vs H Q _ => ∃ v a b c, vs = [v] ∧ SumV K H v a b c ∧ Q (.bl true) H
def spLike : Sp := fun vs H Q _ => ∃ v a b c, vs = [v] ∧ SumV K H v a b c ∧ ∀ p H', Same H H' → StrAt K H' p a b c → Q (.ref p) H'
def spVal : Sp := fun vs H Q _ => ∃ (p : Addr) (a b c i n : Int), vs = [.ref p, .int i, .int n] ∧ StrAt K H p a b c ∧ Sm a ∧ Sm b ∧ Q (.int (a * i + b * n + c)) H
def spAdded : Sp := fun vs H Q _ => ∃ (p q : Addr) (a b c x y z s : Int), vs = [.ref p, .ref q, .int s] ∧ StrAt K H p a b c ∧ StrAt K H q x y z ∧ Sm s ∧ NewS K H (a + s * x) (b + s * y) (c + s * z) Q
def spRepl : Sp := fun vs H Q _ => ∃ (p : Addr) (a b c f g : Int), vs = [.ref p, .int f, .int g] ∧ StrAt K H p a b c ∧ Sm a ∧ NewS K H (a * f) b (c + a * g) Q
def spSEq : Sp := fun vs H Q _ => ∃ (p : Addr) (a b c : Int) (v : V), vs = [.ref p, v] ∧ StrAt K H p a b c ∧ ((∃ q x y z, v = .ref q ∧ StrAt K H q x y z ∧ Q (.bl (decide (a = x ∧ b = y ∧ c = z))) H) ∨
  ∃ t, TyOf K H v t ∧ PySem.W.kitOne K t (.ref (CS K)) = some false ∧ Q (.bl false) H)
def spSAdd : Sp := fun vs H Q _ => ∃ (p : Addr) (a b c x y z : Int) (v : V), vs = [.ref p, v] ∧ StrAt K H p a b c ∧ SumV K H v x y z ∧ ∀ q H', Same H H' → StrAt K H' q (a + x) (b + y) (c + z) → Q (.ref q) H'
def spSMul : Sp := fun vs H Q _ => ∃ (p : Addr) (a b c k : Int), vs = [.ref p, .int k] ∧ StrAt K H p a b c ∧ (Sm k ∨ Sm a ∧ Sm b ∧ Sm c) ∧ NewS K H (a * k) (b * k) (c * k) Q
end
end Z

set_option maxHeartbeats 4000000
namespace Z
open PySem PySem.Spec PyProof.Rows L2
section
variable {prog : Program} {w : World} {A : Around} {E : Value → Shared → Prop} {s : Shared} {x C dx f : Addr} {K : PySem.W.Frag} {ox : Obj} {od : Option Obj} {b tb : Value}
theorem add_no_call (a : Int) (t : Tok) (h : s.heap.get? x = some (PySem.W.instObj C dx)) : wpAny (model prog w) A (call (.builtin "int.__add__") [.int a t, .ref x]) (fun v s' => v = .notImplemented ∧ s' = s) E s :=
  call_meets PySem.F.slot_int_add (s := s) rfl PySem.F.entry_int_add (PySem.F.args_int_add_2 _ _) (add_no a t x C dx) ⟨h, rfl, rfl⟩
theorem sub_no_call (a : Int) (t : Tok) (h : s.heap.get? x = some (PySem.W.instObj C dx)) : wpAny (model prog w) A (call (.builtin "int.__sub__") [.int a t, .ref x]) (fun v s' => v = .notImplemented ∧ s' = s) E s :=
  call_meets PySem.F.slot_int_sub (s := s) rfl PySem.F.entry_int_sub (PySem.F.args_int_sub_2 _ _) (sub_no a t x C dx) ⟨h, rfl, rfl⟩
/-- object's own !=, on an instance whose class has its own == -/
theorem objNe_entry (hu : A.units < cLine) (X : K.In s.heap) (I : PySem.W.InstAt s.heap x ox C od) (hs : PySem.W.findIn K (.ref C) "__eq__" = some (some (.ref f))) (hf : PySem.W.isFn K (.ref f) = true) {Q : Fin → Shared → Prop}
    (hcall : wpAny (model prog w) A (call (.ref f) [.ref x, b]) (fun v s' => ∃ c, v = .bool c ∧ Q (.done (.ret (.bool (!c)))) s') E s) :
    wpAny (model prog w) A (Builtin.«object.__ne__» ⟨[.ref x, b], []⟩) Q E s := by
  unfold Builtin.«object.__ne__»
  repeat (first
    | with_reducible refine wpAny_cRoomFor hu ?_
    | (refine wpAny_bind (m := callSpecialIfBound? (.ref x) (Str.ofString "__eq__") [b])
        (PySem.W.ifBound_K X I hs hf (wpAny_mono hcall (fun r s' hr => by
          obtain ⟨c, rfl, hq⟩ := hr
          repeat (first | exact hq | exact wpAny_pure hq | exact wpAny_truthy_bool hq | (refine wpAny_bind (m := truthy (.bool _)) (wpAny_truthy_bool ?_)) | wp_step)) fun _ _ e => e)))
    | wp_step)
theorem ifBound_slot {M : Model} {name : Str} {id : String} {args : List Value} {Q : Option Value → Shared → Prop} (S : PySem.Slot "object" name id) (X : K.In s.heap) (I : PySem.W.InstAt s.heap x ox C od) (hs : PySem.W.findIn K (.ref C) name = some (some (.builtin id)))
    (h : wpAny M A (call (.builtin id) (.ref x :: args)) (fun v => Q (some v)) E s) : wpAny M A (callSpecialIfBound? (.ref x) name args) Q E s := by
  simp only [callSpecialIfBound?, bindSpecialIfBound?]
  refine wpAny_holding (wpAny_bind (wpAny_bind (wpAny_bind (I.type.here ((PySem.W.looks_findIn X hs).here ?_)))))
  simp only [S.bind]
  refine wpAny_bind (wpAny_askSetting (wpAny_ite ?_))
  have fin : wpAny M A (call (.builtin id) ([.ref x] ++ args) >>= fun v => pure (some v)) Q E s := wpAny_bind (wpAny_mono h (fun v s' h' => wpAny_pure h') fun _ _ h' => h')
  split
  · exact wpAny_bind (wpAny_pure (wpAny_pure fin))
  · exact wpAny_tryCatch (wpAny_bind (wpAny_pure (wpAny_pure fin)))
theorem ne_K {Q : Value → Shared → Prop} (hu : A.units + 1 < cLine) (X : K.In s.heap) (I : PySem.W.InstAt s.heap x ox C od) (hb : PySem.W.Looks (model prog w) s.heap (typeOf b) tb) (hn : PySem.W.notFirst K C tb = true)
    (hN : PySem.W.findIn K (.ref C) "__ne__" = some (some (.builtin "object.__ne__"))) (hO : PySem.W.subIn K (.ref C) (.type "object") = some true)
    (hs : PySem.W.findIn K (.ref C) "__eq__" = some (some (.ref f))) (hf : PySem.W.isFn K (.ref f) = true)
    (h : wpAny (model prog w) A.in1 (call (.ref f) [.ref x, b]) (fun v s' => ∃ c, v = .bool c ∧ Q (.bool (!c)) s') E s) : wpAny (model prog w) A (richCompare .NotEq (.ref x) b) Q E s := by
  have one : wpAny (model prog w) A (tryCompare (.ref x) "__ne__" b) (fun r s' => ∃ v, r = some v ∧ Q v s') E s := by
    unfold tryCompare
    refine wpAny_bind (ifBound_slot PySem.F.cmp_object.ne X I hN (wpAny_call (codeAny_call_builtin PySem.F.cmp_object.ne.plain PySem.F.cmpEntry_ne
      (PySem.W.check_slot PySem.F.cmpKind_ne PySem.F.cmpSplit_ne (I.type.andThen (PySem.W.looks_subIn X hO)) (PySem.F.cmpArgs_ne _ _)
        (objNe_entry (A := A.in1) hu X I hs hf (wpAny_mono h (fun v s' hv => ?_) fun _ _ e => e))))))
    obtain ⟨c, rfl, hq⟩ := hv
    first | exact ⟨c, rfl, wpAny_pure ⟨_, rfl, hq⟩⟩ | exact ⟨c, rfl, ⟨_, rfl, hq⟩⟩
  unfold richCompare
  simp only [oneThing_ref]
  refine wpAny_holding (wpAny_bind (wpAny_cRoomFor (Nat.lt_of_succ_lt hu) ?_))
  rw [cmpInfo_NotEq]
  dsimp only
  refine wpAny_bind (I.type.here (wpAny_bind (hb.here ?_)))
  split
  · rename_i q
    have e : PySem.W.subIn K tb (.ref C) = some false := by
      rcases Bool.or_eq_true_iff.mp hn with e | e
      · rw [beq_iff_eq.mp e] at q; simp at q
      · exact beq_iff_eq.mp e
    refine wpAny_bind ((PySem.W.looks_subIn X e).here ?_)
    simp only [Bool.false_eq_true, if_false]
    refine wpAny_bind (wpAny_mono one (fun r s' z => ?_) fun _ _ e => e)
    obtain ⟨v, rfl, hq⟩ := z
    exact wpAny_pure hq
  · refine wpAny_bind (wpAny_pure ?_)
    simp only [Bool.false_eq_true, if_false]
    refine wpAny_bind (wpAny_mono one (fun r s' z => ?_) fun _ _ e => e)
    obtain ⟨v, rfl, hq⟩ := z
    exact wpAny_pure hq
end
section
variable {X : Cx}
/-- k + x, k - x: k an int, x of the class C -/
theorem op_reflAdd {C : Addr} {k j j0 : Nat} {sp sp0 : Sp} (O0 : Om X.prog X.w X.K X.mg X.base C j0 (dunder "add") sp0) (O : Om X.prog X.w X.K X.mg X.base C j (dunderR "add") sp) (T : OpI X.K C "add") (hr : Room k X.A) (hjk : j ≤ k := by decide) : OpR X (binaryOp .Add) (rRefl C sp) := by
  intro pins s σ H x y v u Q I rx ry h
  obtain ⟨a, dx, fs, i, rfl, rfl, ha, q⟩ := h
  obtain ⟨f, fd, ps, F, hs, hf, hbd⟩ := O
  obtain ⟨f0, _, _, _, hs0, _, _⟩ := O0
  have rr : Vals [V.ref a, V.int i] [u, v] := .cons ry (.cons rx .nil)
  obtain ⟨t, rfl⟩ := (show ∃ t, v = Value.int i t from rx)
  cases (show u = Value.ref a from ry)
  obtain ⟨od, J⟩ := ins_at I ha
  exact refl_binop (op := .Add) I.kIn J T.sf hs0 hs hf T.s2 PySem.F.fills_int_add PySem.F.slot_int_add (add_no_call i t J.1) (om_run F hbd (hr.mono hjk) I rr q)
theorem op_reflSub {C : Addr} {k j j0 : Nat} {sp sp0 : Sp} (O0 : Om X.prog X.w X.K X.mg X.base C j0 (dunder "sub") sp0) (O : Om X.prog X.w X.K X.mg X.base C j (dunderR "sub") sp) (T : OpI X.K C "sub") (hr : Room k X.A) (hjk : j ≤ k := by decide) : OpR X (binaryOp .Sub) (rRefl C sp) := by
  intro pins s σ H x y v u Q I rx ry h
  obtain ⟨a, dx, fs, i, rfl, rfl, ha, q⟩ := h
  obtain ⟨f, fd, ps, F, hs, hf, hbd⟩ := O
  obtain ⟨f0, _, _, _, hs0, _, _⟩ := O0
  have rr : Vals [V.ref a, V.int i] [u, v] := .cons ry (.cons rx .nil)
  obtain ⟨t, rfl⟩ := (show ∃ t, v = Value.int i t from rx)
  cases (show u = Value.ref a from ry)
  obtain ⟨od, J⟩ := ins_at I ha
  exact refl_binop (op := .Sub) I.kIn J T.sf hs0 hs hf T.s2 PySem.F.fills_int_sub PySem.F.slot_int_sub (sub_no_call i t J.1) (om_run F hbd (hr.mono hjk) I rr q)
/-- -x, x of the class C -/
theorem un_own {C : Addr} {k j : Nat} {sp : Sp} (O : Om X.prog X.w X.K X.mg X.base C j "__neg__" sp) (hr : Room k X.A) (hjk : j ≤ k := by decide) : UnR X (unaryOp .USub) (fun x H Q => ∃ (a dx : Addr) (fs : List (Str × V)), x = .ref a ∧ H a = some (.ins C dx fs) ∧ sp [x] H Q E0) := by
  intro pins s σ H x v Q I rx h
  obtain ⟨a, dx, fs, rfl, ha, q⟩ := h
  obtain ⟨f, fd, ps, F, hs, hf, hbd⟩ := O
  cases (show v = Value.ref a from rx)
  obtain ⟨od, J⟩ := ins_at I ha
  obtain ⟨m, hF⟩ := I.fr
  exact PySem.W.ksp_neg hF I.ok.mod.kin J hs hf (run_fn (vs := [.ref a]) F (hr.mono hjk) hbd .nil pass0 I (.cons rx .nil) (by rw [List.append_nil]; exact q))
/-- what != asks of the class -/
structure NeC (K : PySem.W.Frag) (C : Addr) : Prop where
  ne : PySem.W.findIn K (.ref C) "__ne__" = some (some (.builtin "object.__ne__"))
  ob : PySem.W.subIn K (.ref C) (.type "object") = some true
/-- x != y, x of the class C with its own ==, no != -/
def rNeOwn (K : PySem.W.Frag) (C : Addr) (sp : Sp) : R2 := fun x y H Q => ∃ (a dx : Addr) (fs : List (Str × V)) (t : Value), x = .ref a ∧ H a = some (.ins C dx fs) ∧ TyOf K H y t ∧ PySem.W.notFirst K C t = true ∧ sp [x, y] H (fun z H' => ∃ c, z = .bl c ∧ Q (.bl (!c)) H') E0
theorem op_neOwn {C : Addr} {k j : Nat} {sp : Sp} (O : Om X.prog X.w X.K X.mg X.base C j "__eq__" sp) (N : NeC X.K C) (hr : Room k X.A) (hjk : j + 1 ≤ k := by decide) : OpR X (compareOp .NotEq) (rNeOwn X.K C sp) := by
  intro pins s σ H x y v u Q I rx ry h
  obtain ⟨a, dx, fs, t, rfl, ha, ty, hn, q⟩ := h
  obtain ⟨f, fd, ps, F, hs, hf, hbd⟩ := O
  have rr : Vals [V.ref a, y] [v, u] := .cons rx (.cons ry .nil)
  cases (show v = Value.ref a from rx)
  obtain ⟨od, J⟩ := ins_at I ha
  show wpAny (model X.prog X.w) X.A (richCompare .NotEq (.ref a) u) (EP X pins σ Q) X.xe s
  have hr1 : Room (j + 1) X.A := hr.mono hjk
  refine ne_K (by have := hr.un; omega) I.kIn J (ty_looks I ry ty) hn N.ne N.ob hs hf ?_
  have R := FnOk.raw F hbd .nil
  refine wpAny_mono (wpAny_call (SlX.run_at (us := [.ref a, u]) (ws := [.ref a, y]) R hr1.in1 I.env0.in1 pass0 I rr (by rw [List.append_nil]; exact q))) (fun z s' hz => ?_) fun _ _ e => e
  obtain ⟨z', H', I', rz, c, ec, qc⟩ := hz
  subst ec
  cases (show z = Value.bool c from rz)
  exact ⟨c, rfl, .bl (!c), H', I', rfl, qc⟩
end
end Z

set_option maxHeartbeats 4000000
namespace Z
open PySem PySem.Spec PyProof.Rows L2
/-! ### numbers of so many bits -/
def Bd (n : Nat) (x : Int) : Prop := x.natAbs < 2 ^ n
theorem Bd.mono {n m : Nat} {x : Int} (h : Bd n x) (e : n ≤ m) : Bd m x := Nat.lt_of_lt_of_le h (Nat.pow_le_pow_right (by decide) e)
theorem Bd.mul {n m : Nat} {x y : Int} (h : Bd n x) (g : Bd m y) : Bd (n + m) (x * y) := by
  unfold Bd at *
  rw [Int.natAbs_mul, Nat.pow_add]
  exact Nat.mul_lt_mul'' h g
theorem Bd.add {n : Nat} {x y : Int} (h : Bd n x) (g : Bd n y) : Bd (n + 1) (x + y) := by
  unfold Bd at *
  rw [Nat.pow_succ]
  omega
theorem Bd.sub {n : Nat} {x y : Int} (h : Bd n x) (g : Bd n y) : Bd (n + 1) (x - y) := by
  unfold Bd at *
  rw [Nat.pow_succ]
  omega
theorem Bd.neg {n : Nat} {x : Int} (h : Bd n x) : Bd n (-x) := by
  unfold Bd at *
  omega
theorem Bd.of {n : Nat} {x : Int} (N : Nat) (hN : N < 2 ^ n) (h1 : -(N : Int) ≤ x) (h2 : x ≤ (N : Int)) : Bd n x := by
  unfold Bd
  omega
theorem bd_c {n m : Nat} {x y : Int} (h : Bd n x) (g : Bd m y) (h0 : 0 < n := by decide) (h1 : 0 < m := by decide) (e : n + m ≤ 1000000 := by decide) : CMulW x y := wide_mul h g h0 h1 e
section
variable (K : PySem.W.Frag)
def spValW : Sp := fun vs H Q _ => ∃ (p : Addr) (a b c i n : Int), vs = [.ref p, .int i, .int n] ∧ StrAt K H p a b c ∧ Bd 400 a ∧ Bd 400 b ∧ Bd 400 i ∧ Bd 400 n ∧ Q (.int (a * i + b * n + c)) H
def spReplW : Sp := fun vs H Q _ => ∃ (p : Addr) (a b c f g : Int), vs = [.ref p, .int f, .int g] ∧ StrAt K H p a b c ∧ Bd 400 a ∧ Bd 400 f ∧ Bd 400 g ∧ NewS K H (a * f) b (c + a * g) Q
def spSMulW : Sp := fun vs H Q _ => ∃ (p : Addr) (a b c k : Int), vs = [.ref p, .int k] ∧ StrAt K H p a b c ∧ Bd 400 k ∧ Bd 400 a ∧ Bd 400 b ∧ Bd 400 c ∧ NewS K H (a * k) (b * k) (c * k) Q
def spSNeg : Sp := fun vs H Q _ => ∃ (p : Addr) (a b c : Int), vs = [.ref p] ∧ StrAt K H p a b c ∧ NewS K H (-a) (-b) (-c) Q
/-- a new sum, or the old one -/
def GotS (H : Hp) (a b c : Int) (Q : VK) : Prop := ∀ q H', Same H H' → StrAt K H' q a b c → Q (.ref q) H'
def spSSub : Sp := fun vs H Q _ => ∃ (p : Addr) (a b c x y z : Int) (v : V), vs = [.ref p, v] ∧ StrAt K H p a b c ∧ SumV K H v x y z ∧ GotS K H (a - x) (b - y) (c - z) Q
def spSRadd : Sp := fun vs H Q _ => ∃ (p : Addr) (a b c x y z : Int) (v : V), vs = [.ref p, v] ∧ StrAt K H p a b c ∧ SumV K H v x y z ∧ GotS K H (x + a) (y + b) (z + c) Q
def spSRsub : Sp := fun vs H Q _ => ∃ (p : Addr) (a b c x y z : Int) (v : V), vs = [.ref p, v] ∧ StrAt K H p a b c ∧ SumV K H v x y z ∧ GotS K H (x - a) (y - b) (z - c) Q
end
end Z

set_option maxHeartbeats 4000000
namespace Z
open PySem PySem.Spec PyProof.Rows L2
/-! ### an own class whose making may raise -/
section
variable {X : Cx} {CX : CXT} {k : Nat} {f C : Addr} {fd : FuncData} {ps : List Str} {sp : Sp} {E : XK}
theorem make_at {pins : List (Addr × Obj)} {σ : L2.St} {H : Hp} {s : Shared} {Q : VK} {us : List Value} {vs : List V} (M : Mk X.K C f) (F : FnOk X.prog X.w X.K X.mg X.base CX k f fd ps sp) (hr : Room (k + 1) X.A) (hb : Binds X.K fd ps [])
    (hx : PassesAt CX X σ E) (I : L2.Inv X pins σ H s) (r : Vals vs us)
    (h : ∀ x dx, H x = none → H dx = none → dx ≠ x → sp (.ref x :: vs) (upd (upd H dx (.own x)) x (.ins C dx [])) (fun v H2 => v = .non ∧ Q (.ref x) H2) E) :
    wpAny (model X.prog X.w) X.A (call (.ref C) us) (EP X pins σ Q) X.xe s := by
  have q0 := h (s.heap.objs.size + 1) s.heap.objs.size (I.hok.fresh (Nat.le_succ _)) (I.hok.fresh (Nat.le_refl _)) (Nat.ne_of_lt (Nat.lt_succ_self _))
  have J := Inv.made (C := C) I
  have rr : Vals (V.ref (s.heap.objs.size + 1) :: vs) (Value.ref (s.heap.objs.size + 1) :: us) := .cons rfl r
  have len : (Value.ref (s.heap.objs.size + 1) :: us).length = ps.length := by
    have e := rr.length
    rw [F.len _ _ _ _ q0] at e
    exact e.symm
  have bb := hb _ (Value.ref (s.heap.objs.size + 1) :: us) J.kIn (by rw [List.append_nil]; exact len)
  rw [List.append_nil] at bb
  refine wpAny_call (make_map (f := f) I.kIn M.makes M.init (beq_iff_eq.mp M.fn) (codeAny_mono (F.run _ X.stack _ _ ⟨Value.ref (s.heap.objs.size + 1) :: us, []⟩ (Value.ref (s.heap.objs.size + 1) :: us) _ _ E (hr.make C us [])
    (J.env0.make C us []) bb rr q0) fun r' s' z => ?_))
  cases r' with
  | error e => exact hx pins _ _ e s' J z
  | ok fl =>
    cases fl with
    | ret u =>
      obtain ⟨v, H', I3, rv, ev, q3⟩ := J.after z
      subst ev
      exact ⟨rv, ⟨V.ref (s.heap.objs.size + 1), H', I3, rfl, q3⟩⟩
    | next => exact False.elim z
    | brk => exact False.elim z
    | cont => exact False.elim z
theorem at_E0 (σ : L2.St) : PassesAt (L2.CX X.prog X.w) X σ E0 := fun pins H s e s' I h => passL pins σ H s e s' I h
end
/-! ### an error's own __init__, its dict new -/
def spErr (K : PySem.W.Frag) (x : Str) (fs : List Str) : Sp := fun vs H Q _ => ∃ (a : Addr) (ws : List V), vs = .ref a :: ws ∧ ws.length = fs.length ∧ H a = some (exo a (He.ga K x) none) ∧
  ∀ (d : Addr) (H' : Hp), H d = none → H' a = some (exo a (He.ga K x) (some d)) → H' d = some (exd d (fs.zip ws).reverse) → Keep a H H' → Q .non H'
structure EC (K : PySem.W.Frag) (mg : Str → Option Value) (x : Str) (fs : List Str) : Prop where
  gC : mg x = some (.ref (He.ga K x))
  ox : OexC K (He.ga K x)
  ex : Exk K (He.ga K x)
  iC : PySem.W.findIn K (.ref (He.ga K x)) "__init__" = some (some (.ref (He.ma K (He.ga K x) "__init__")))
  tI : PySem.W.typeIn K (.ref (He.ma K (He.ga K x) "__init__")) = some (.type "function")
  na : ∀ f ∈ fs, PySem.W.findIn K (.ref (He.ga K x)) f = some none
theorem list2 {ws : List V} (h : ws.length = 2) : ∃ y z, ws = [y, z] := match ws, h with | [y, z], _ => ⟨y, z, rfl⟩
theorem list1 {ws : List V} (h : ws.length = 1) : ∃ y, ws = [y] := match ws, h with | [y], _ => ⟨y, rfl⟩
theorem list3 {ws : List V} (h : ws.length = 3) : ∃ y z u, ws = [y, z, u] := match ws, h with | [y, z, u], _ => ⟨y, z, u, rfl⟩
section
variable {K : PySem.W.Frag} {mg : Str → Option Value} {x f1 f2 f3 n0 n1 n2 n3 : Str} {vs : List V} {H : Hp} {Q : VK} {E : XK}
theorem keep1 {a d : Addr} {o u : HO} (hd : H d = none) : Keep a H (upd (upd H d o) a u) := Keep.upd _ (Keep.new _ (Keep.refl a H) hd)
theorem rd_err1 (M : EC K mg x [f1]) (h : spErr K x [f1] vs H Q E) :
    tOst K f1 (tVar 0) (tVar 1) { nx := fun _ H' => Q .non H', rt := Q } (L2.start [n0, n1] vs) H := by
  obtain ⟨a, ws, rfl, hl, ha, k⟩ := h
  obtain ⟨y, rfl⟩ := list1 hl
  refine ⟨_, rfl, _, rfl, a, _, rfl, M.ox, M.na _ (by simp), .inl ⟨ha, fun d hd nd => ?_⟩⟩
  exact k d _ hd upd_same (by rw [upd_ne nd, upd_same]; rfl) (keep1 hd)
theorem rd_err2 (M : EC K mg x [f1, f2]) (h : spErr K x [f1, f2] vs H Q E) :
    tSeq (tOst K f1 (tVar 0) (tVar 1)) (tOst K f2 (tVar 0) (tVar 2)) { nx := fun _ H' => Q .non H', rt := Q } (L2.start [n0, n1, n2] vs) H := by
  obtain ⟨a, ws, rfl, hl, ha, k⟩ := h
  obtain ⟨y, z, rfl⟩ := list2 hl
  refine ⟨_, rfl, _, rfl, a, _, rfl, M.ox, M.na _ (by simp), .inl ⟨ha, fun d hd nd => ?_⟩⟩
  refine ⟨_, rfl, _, rfl, a, _, rfl, M.ox, M.na _ (by simp), .inr ⟨d, [(f1, y)], upd_same, (by rw [upd_ne nd, upd_same]), (by show 1 ≤ 900; decide), ?_⟩⟩
  refine k d _ hd (by rw [upd_ne nd.symm, upd_same]) upd_same fun b u nb e => ?_
  rw [upd_ne (ne_of_none e hd)]
  exact keep1 hd b u nb e
theorem rd_err3 (M : EC K mg x [f1, f2, f3]) (h : spErr K x [f1, f2, f3] vs H Q E) :
    tSeq (tOst K f1 (tVar 0) (tVar 1)) (tSeq (tOst K f2 (tVar 0) (tVar 2)) (tOst K f3 (tVar 0) (tVar 3))) { nx := fun _ H' => Q .non H', rt := Q } (L2.start [n0, n1, n2, n3] vs) H := by
  obtain ⟨a, ws, rfl, hl, ha, k⟩ := h
  obtain ⟨y, z, u, rfl⟩ := list3 hl
  refine ⟨_, rfl, _, rfl, a, _, rfl, M.ox, M.na _ (by simp), .inl ⟨ha, fun d hd nd => ?_⟩⟩
  refine ⟨_, rfl, _, rfl, a, _, rfl, M.ox, M.na _ (by simp), .inr ⟨d, [(f1, y)], upd_same, (by rw [upd_ne nd, upd_same]), (by show 1 ≤ 900; decide), ?_⟩⟩
  refine ⟨_, rfl, _, rfl, a, _, rfl, M.ox, M.na _ (by simp), .inr ⟨d, [(f2, z), (f1, y)], (by rw [upd_ne nd.symm, upd_same]), upd_same, (by show 2 ≤ 900; decide), ?_⟩⟩
  refine k d _ hd (by rw [upd_ne nd.symm, upd_ne nd.symm, upd_same]) upd_same fun b v nb e => ?_
  rw [upd_ne (ne_of_none e hd), upd_ne (ne_of_none e hd)]
  exact keep1 hd b v nb e
end
/-- an error class that may be raised -/
def Mx (P : Program) (w : World) (K : PySem.W.Frag) (mg : Str → Option Value) (base : Heap) (x : Str) (ps fs : List Str) : Prop :=
  EC K mg x fs ∧ ∃ fd, FnOk P w K mg base CX0 1 (He.ma K (He.ga K x) "__init__") fd ps (spErr K x fs) ∧ Binds K fd ps []
section
variable {X : Cx} {e : Expr} {es : List Expr} {t : TA} {p pos pos2 : Pos} {W : WX}
theorem pmk_err {k : Nat} {x : Str} {ps fs : List Str} (M : Mx X.prog X.w X.K X.mg X.base x ps fs) (hr : Room k X.A) (ha : PA X (e :: es) t) (hk : 2 ≤ k := by decide) (hg : Gl X x := by rfl)
    (hdb : (x == ("__debug__" : Str)) = false := by decide) (he : starEach (e :: es) X.env = (false, eval e X.env) :: starEach es X.env := by rfl) (hpl : (backTo pos (starEach es X.env)).any (·.1) = false := by rfl) :
    PMk X (.Call (.Name x p) (e :: es) [] pos) (tMkO (He.ga X.K x) (spErr X.K x fs) [] t) := by
  obtain ⟨T, fd, F, hb⟩ := M
  exact pmk_oex (CX := CX0) (dvs := []) (ds := []) T.ox T.iC T.tI F (hr.mono hk) hb .nil pass0 hg T.gC ha hdb he hpl
/-- the reading of such a raise behind its arguments: the new dict holds the fields, all else is as it was -/
theorem err_go {K : PySem.W.Frag} {x : Str} {fs : List Str} {vs : List V} {H1 : Hp} {Q : XK} (hl : vs.length ≤ 1000) (hlf : vs.length = fs.length)
    (w : ∀ d H', Same H1 H' → H' d = some (.xd (fs.zip vs).reverse) → Q (.ref (He.ga K x)) (some d) H') :
    vs.length ≤ 1000 ∧ ∀ a, H1 a = none → spErr K x fs (.ref a :: (vs ++ [])) (upd H1 a (exo a (He.ga K x) none))
      (fun v H2 => v = .non ∧ ∃ (d : Addr) (fs' : List (Str × V)), H2 a = some (exo a (He.ga K x) (some d)) ∧ H2 d = some (exd d fs') ∧ H1 d = none ∧ Q (.ref (He.ga K x)) (some d) (upd (del H2 a) d (.xd fs'))) (fun _ _ _ => False) := by
  refine ⟨hl, fun a ha => ?_⟩
  rw [List.append_nil]
  refine ⟨a, vs, rfl, hlf, upd_same, fun d H' hd hA hD kp => ⟨rfl, d, _, hA, hD, ?_, w d _ (fun b u e => ?_) upd_same⟩⟩
  · have n : d ≠ a := fun z => by
      rw [z, upd_same] at hd
      cases hd
    rw [upd_ne n] at hd
    exact hd
  · have nb : b ≠ a := ne_of_none e ha
    have nd : b ≠ d := fun z => by
      rw [← z, upd_ne nb] at hd
      rw [hd] at e
      cases e
    rw [upd_ne nd, del_ne nb]
    exact kp b u nb (by rw [upd_ne nb]; exact e)
end
/-! ### places -/
def gg (a b d : Int) : Nat := Nat.gcd (Nat.gcd a.natAbs b.natAbs) d.natAbs
abbrev CB (K : PySem.W.Frag) : Addr := He.ga K "BadNumber"
structure PlTx (K : PySem.W.Frag) (mg : Str → Option Value) : Prop extends StTx K mg where
  gP : mg "Place" = some (.ref (CP K))
  clP : Cls K (CP K)
  mkP : Mk K (CP K) (He.ma K (CP K) "__init__")
  ixP : Inx K (CP K)
  nS : NoAttr K (CP K) "straight"
  nD : NoAttr K (CP K) "divisor"
  gcd : mg "gcd" = some (.builtin "math.gcd")
  kPP : PySem.W.kitOne K (.ref (CP K)) (.ref (CP K)) = some true
  kPS : PySem.W.kitOne K (.ref (CP K)) (.ref (CS K)) = some false
  kSP : PySem.W.kitOne K (.ref (CS K)) (.ref (CP K)) = some false
  kiP : PySem.W.kitOne K (.type "int") (.ref (CP K)) = some false
theorem PlTx.pty {K : PySem.W.Frag} {mg : Str → Option Value} (T : PlTx K mg) {H : Hp} {p : Addr} {a b c d : Int} (h : PlcAt K H p a b c d) : TyOf K H (.ref p) (.ref (CP K)) := by
  obtain ⟨dx, q, h, _⟩ := h
  exact .ins h T.clP T.ixP.ha T.ixP.hn T.ixP.ht T.ixP.hm
def bnF (w : Str) (v : V) : List (Str × V) := [("number", v), ("what", .str w)]
section
variable (K : PySem.W.Frag)
/-- the place that is made of a sum and a divisor -/
def NewP (H : Hp) (a b c d : Int) (Q : VK) : Prop := ∀ p H', Same H H' → PlcAt K H' p (a.fdiv (gg a b d)) (b.fdiv (gg a b d)) (c.fdiv (gg a b d)) (d.fdiv (gg a b d)) → Q (.ref p) H'
def BadN (H : Hp) (w : Str) (v : V) (E : XK) : Prop := ∀ e H', Same H H' → H' e = some (.xd (bnF w v)) → E (.ref (CB K)) (some e) H'
def spPI : Sp := fun vs H Q E => ∃ (p dx : Addr) (v : V) (a b c d : Int), vs = [.ref p, v, .int d] ∧ H p = some (.ins (CP K) dx []) ∧ SumV K H v a b c ∧ (d < 1 → BadN K H "divisor" (.int d) E) ∧
  (1 ≤ d → d < 1073741824 ∧ ∀ q H', H' p = some (.ins (CP K) dx (pf q (d.fdiv (gg a b d)))) → StrAt K H' q (a.fdiv (gg a b d)) (b.fdiv (gg a b d)) (c.fdiv (gg a b d)) → Keep p H H' → Q .non H')
/-- Place(v, d): what is asked of the arguments -/
def rPlc (v : V) (d : Int) (H : Hp) (Q : VK) (E : XK) : Prop := ∃ a b c, SumV K H v a b c ∧ (d < 1 → BadN K H "divisor" (.int d) E) ∧ (1 ≤ d → d < 1073741824 ∧ NewP K H a b c d Q)
def spFdiv : Sp := fun vs H Q E => ∃ (p : Addr) (a b c d : Int), vs = [.ref p, .int d] ∧ StrAt K H p a b c ∧ (d < 1 → BadN K H "divisor" (.int d) E) ∧ (1 ≤ d → d < 1073741824 ∧ NewP K H a b c d Q)
def spPCall : Sp := fun vs H Q _ => ∃ (p : Addr) (a b c d i n : Int), vs = [.ref p, .int i, .int n] ∧ PlcAt K H p a b c d ∧ Sm a ∧ Sm b ∧ 0 < d ∧ d < 1073741824 ∧ Q (.int ((a * i + b * n + c).fdiv d)) H
def spPEq : Sp := fun vs H Q _ => ∃ (p : Addr) (a b c d : Int) (v : V), vs = [.ref p, v] ∧ PlcAt K H p a b c d ∧ ((∃ q x y z u, v = .ref q ∧ PlcAt K H q x y z u ∧ Q (.bl (decide (a = x ∧ b = y ∧ c = z ∧ d = u))) H) ∨
  ∃ t, TyOf K H v t ∧ PySem.W.kitOne K t (.ref (CP K)) = some false ∧ Q (.bl false) H)
def spPRepl : Sp := fun vs H Q _ => ∃ (p : Addr) (a b c d f g : Int), vs = [.ref p, .int f, .int g] ∧ PlcAt K H p a b c d ∧ Sm a ∧ 1 ≤ d ∧ d < 1073741824 ∧ NewP K H (a * f) b (c + a * g) d Q
end
end Z

namespace Z
/-! ### the arithmetic of least forms -/
theorem fe {x g : Int} (h : 0 < g) : x.fdiv g = x / g := Int.fdiv_eq_ediv_of_nonneg _ (Int.le_of_lt h)
theorem gg_pos {a b d : Int} (h : 0 < d) : 0 < gg a b d := Nat.gcd_pos_of_pos_right _ (by omega)
theorem gg_le {a b d : Int} (h : 0 < d) : ((gg a b d : Nat) : Int) ≤ d := by
  have := Nat.le_of_dvd (by omega) (Nat.gcd_dvd_right (Nat.gcd a.natAbs b.natAbs) d.natAbs)
  show ((Nat.gcd (Nat.gcd a.natAbs b.natAbs) d.natAbs : Nat) : Int) ≤ d
  omega
theorem gg_dvd (a b d : Int) : ∃ a' b' d', a = (gg a b d : Int) * a' ∧ b = (gg a b d : Int) * b' ∧ d = (gg a b d : Int) * d' := by
  have h1 : ((gg a b d : Nat) : Int) ∣ a := Int.ofNat_dvd_left.mpr (Nat.dvd_trans (Nat.gcd_dvd_left _ _) (Nat.gcd_dvd_left _ _))
  have h2 : ((gg a b d : Nat) : Int) ∣ b := Int.ofNat_dvd_left.mpr (Nat.dvd_trans (Nat.gcd_dvd_left _ _) (Nat.gcd_dvd_right _ _))
  have h3 : ((gg a b d : Nat) : Int) ∣ d := Int.ofNat_dvd_left.mpr (Nat.gcd_dvd_right _ _)
  exact ⟨_, _, _, h1.choose_spec, h2.choose_spec, h3.choose_spec⟩
theorem fmul {g x : Int} (h : 0 < g) : (g * x).fdiv g = x := by
  rw [fe h]
  exact Int.mul_ediv_cancel_left _ (by omega)
theorem fdiv_bd {x M g : Int} (h : 0 < g) (hM : 0 ≤ M) (h1 : -M ≤ x) (h2 : x ≤ M) : -M ≤ x.fdiv g ∧ x.fdiv g ≤ M := by
  rw [fe h]
  have z : M ≤ M * g := by
    have := Int.mul_le_mul_of_nonneg_left (show (1 : Int) ≤ g by omega) hM
    omega
  have z2 : -M * g ≤ x := by
    rw [Int.neg_mul]
    omega
  refine ⟨Int.le_ediv_of_mul_le h z2, ?_⟩
  exact Int.ediv_le_of_le_mul h (by omega)
/-- the divisor of the least form is from 1 on and not above d -/
theorem dv_bd {a b d : Int} (h : 0 < d) : 1 ≤ d.fdiv (gg a b d) ∧ d.fdiv (gg a b d) ≤ d := by
  have g0 : (0 : Int) < (gg a b d : Nat) := by exact_mod_cast gg_pos h
  refine ⟨?_, (fdiv_bd g0 (Int.le_of_lt h) (by omega) (Int.le_refl d)).2⟩
  rw [fe g0]
  exact Int.le_ediv_of_mul_le g0 (by rw [Int.one_mul]; exact gg_le h)
/-- the value of the least form -/
theorem val_least {a b c d i n : Int} (h : 0 < d) : ((a.fdiv (gg a b d)) * i + (b.fdiv (gg a b d)) * n + c.fdiv (gg a b d)).fdiv (d.fdiv (gg a b d)) = (a * i + b * n + c).fdiv d := by
  have dv := dv_bd (a := a) (b := b) h
  obtain ⟨a', b', d', ha, hb, hd⟩ := gg_dvd a b d
  have g0 : (0 : Int) < (gg a b d : Nat) := by exact_mod_cast gg_pos h
  generalize ((gg a b d : Nat) : Int) = g at *
  have e1 : a.fdiv g = a' := by rw [ha]; exact fmul g0
  have e2 : b.fdiv g = b' := by rw [hb]; exact fmul g0
  have e3 : d.fdiv g = d' := by rw [hd]; exact fmul g0
  rw [e3] at dv
  rw [e1, e2, e3, fe (show 0 < d' by omega), fe g0, fe h]
  have e4 : a * i + b * n + c = c + g * (a' * i + b' * n) := by
    rw [ha, hb, Int.mul_add, Int.mul_assoc, Int.mul_assoc]
    omega
  have e5 : a' * i + b' * n + c / g = (c + g * (a' * i + b' * n)) / g := by
    rw [Int.add_mul_ediv_left _ _ (by omega)]
    omega
  rw [e4, e5, hd, Int.ediv_ediv_of_nonneg (Int.le_of_lt g0)]
/-- the least form of a least form with another counter -/
theorem least_moved {a b c d m s : Int} (h : 0 < d) :
    (a.fdiv (gg a b d) * m).fdiv (gg (a.fdiv (gg a b d) * m) (b.fdiv (gg a b d)) (d.fdiv (gg a b d))) = (a * m).fdiv (gg (a * m) b d) ∧
    (b.fdiv (gg a b d)).fdiv (gg (a.fdiv (gg a b d) * m) (b.fdiv (gg a b d)) (d.fdiv (gg a b d))) = b.fdiv (gg (a * m) b d) ∧
    (c.fdiv (gg a b d) + a.fdiv (gg a b d) * s).fdiv (gg (a.fdiv (gg a b d) * m) (b.fdiv (gg a b d)) (d.fdiv (gg a b d))) = (a * s + c).fdiv (gg (a * m) b d) ∧
    (d.fdiv (gg a b d)).fdiv (gg (a.fdiv (gg a b d) * m) (b.fdiv (gg a b d)) (d.fdiv (gg a b d))) = d.fdiv (gg (a * m) b d) := by
  have dv := dv_bd (a := a) (b := b) h
  obtain ⟨a', b', d', ha, hb, hd⟩ := gg_dvd a b d
  have gp := gg_pos (a := a) (b := b) h
  have g0 : (0 : Int) < (gg a b d : Nat) := by exact_mod_cast gp
  generalize hg : gg a b d = g at *
  have e1 : a.fdiv g = a' := by rw [ha]; exact fmul g0
  have e2 : b.fdiv g = b' := by rw [hb]; exact fmul g0
  have e3 : d.fdiv g = d' := by rw [hd]; exact fmul g0
  rw [e3] at dv
  rw [e1, e2, e3]
  have d0 : 0 < d' := by omega
  have p2 := gg_pos (a := a' * m) (b := b') d0
  have e4 : gg (a * m) b d = g * gg (a' * m) b' d' := by
    unfold gg
    rw [ha, hb, hd, Int.mul_assoc]
    simp only [Int.natAbs_mul, Int.natAbs_natCast, Nat.gcd_mul_left]
  rw [e4]
  generalize gg (a' * m) b' d' = k at *
  have k0 : (0 : Int) < (k : Nat) := by exact_mod_cast p2
  have gk : (0 : Int) < ((g * k : Nat) : Int) := by exact_mod_cast Nat.mul_pos gp p2
  rw [fe k0, fe k0, fe k0, fe k0, fe gk, fe gk, fe gk, fe gk, fe g0, Int.natCast_mul]
  refine ⟨?_, ?_, ?_, ?_⟩
  · rw [ha, Int.mul_assoc, Int.mul_ediv_mul_of_pos _ _ g0]
  · rw [hb, Int.mul_ediv_mul_of_pos _ _ g0]
  · have e5 : a * s + c = c + g * (a' * s) := by
      rw [ha, Int.mul_assoc]
      omega
    rw [e5, ← Int.ediv_ediv_of_nonneg (Int.le_of_lt g0), Int.add_mul_ediv_left _ _ (by omega)]
  · rw [hd, Int.mul_ediv_mul_of_pos _ _ g0]
end Z

set_option maxHeartbeats 4000000
namespace Z
open PySem PySem.Spec PyProof.Rows L2
/-! ### conditions -/
def g2 (a b : Int) : Nat := Nat.gcd a.natAbs b.natAbs
def lf3 (a b c : Int) : Int := if g2 a b = 0 then (if 0 ≤ c then 0 else -1) else c.fdiv (g2 a b)
theorem g2_le {a b : Int} {N : Nat} (ha : a.natAbs ≤ N) (hb : b.natAbs ≤ N) : g2 a b ≤ N := by
  unfold g2
  by_cases h : a.natAbs = 0
  · rw [h, Nat.gcd_zero_left]
    exact hb
  · exact Nat.le_trans (Nat.le_of_dvd (by omega) (Nat.gcd_dvd_left _ _)) ha
theorem g2_zero {a b : Int} (h : g2 a b = 0) : a = 0 ∧ b = 0 := by
  unfold g2 at h
  have h1 := Nat.eq_zero_of_gcd_eq_zero_left h
  have h2 := Nat.eq_zero_of_gcd_eq_zero_right h
  omega
/-- the least form tells the same -/
theorem least_form {a b c i n : Int} : decide (0 ≤ (a.fdiv (g2 a b)) * i + (b.fdiv (g2 a b)) * n + lf3 a b c) = decide (0 ≤ a * i + b * n + c) := by
  unfold lf3
  by_cases h : g2 a b = 0
  · obtain ⟨rfl, rfl⟩ := g2_zero h
    rw [if_pos h, Int.zero_fdiv, Int.zero_mul, Int.zero_mul]
    by_cases hc : 0 ≤ c
    · rw [if_pos hc]
      exact decide_eq_decide.mpr (by omega)
    · rw [if_neg hc]
      exact decide_eq_decide.mpr (by omega)
  · rw [if_neg h]
    have h1 : ((g2 a b : Nat) : Int) ∣ a := Int.ofNat_dvd_left.mpr (Nat.gcd_dvd_left _ _)
    have h2 : ((g2 a b : Nat) : Int) ∣ b := Int.ofNat_dvd_left.mpr (Nat.gcd_dvd_right _ _)
    obtain ⟨a', ha⟩ := h1
    obtain ⟨b', hb⟩ := h2
    have g0 : (0 : Int) < (g2 a b : Nat) := by omega
    generalize ((g2 a b : Nat) : Int) = g at *
    have e1 : a.fdiv g = a' := by rw [ha]; exact fmul g0
    have e2 : b.fdiv g = b' := by rw [hb]; exact fmul g0
    rw [e1, e2, fe g0]
    have e4 : a * i + b * n + c = c + g * (a' * i + b' * n) := by
      rw [ha, hb, Int.mul_add, Int.mul_assoc, Int.mul_assoc]
      omega
    have e5 : a' * i + b' * n + c / g = (c + g * (a' * i + b' * n)) / g := by
      rw [Int.add_mul_ediv_left _ _ (by omega)]
      omega
    rw [e4, e5]
    exact decide_eq_decide.mpr (Int.ediv_nonneg_iff_of_pos g0)
theorem fm {x m : Int} (h : 0 < m) : x.fmod m = x % m := Int.fmod_eq_emod_of_nonneg _ (Int.le_of_lt h)
theorem rest_form {a b c m r i n : Int} (hm : 2 ≤ m) (hm2 : m ≤ 4) (r0 : 0 ≤ r) (r1 : r ≤ m - 1) : decide (((a.fmod m) * i + (b.fmod m) * n + 0).fmod m = (r - c).fmod m) = decide ((a * i + b * n + c).fmod m = r) := by
  have m0 : 0 < m := by omega
  rw [fm m0, fm m0, fm m0, fm m0, fm m0]
  have e : a * i + b * n = (a % m * i + b % m * n) + m * (a / m * i + b / m * n) := by
    have e1 : a * i = a % m * i + m * (a / m * i) := by
      rw [← Int.mul_assoc, ← Int.add_mul, Int.emod_add_mul_ediv]
    have e2 : b * n = b % m * n + m * (b / m * n) := by
      rw [← Int.mul_assoc, ← Int.add_mul, Int.emod_add_mul_ediv]
    rw [Int.mul_add]
    omega
  rw [e]
  generalize a % m * i + b % m * n = y
  generalize a / m * i + b / m * n = k
  refine decide_eq_decide.mpr ?_
  have h3 : m = 2 ∨ m = 3 ∨ m = 4 := by omega
  rcases h3 with z | z | z <;> subst z <;> omega
section
variable (K : PySem.W.Frag)
abbrev CA : Addr := He.ga K "AtLeast"
abbrev CR : Addr := He.ga K "Rest"
def af (q : Addr) : List (Str × V) := putF "straight" (.ref q) []
def rf (q : Addr) (m r : Int) : List (Str × V) := putF "rest" (.int r) (putF "modulus" (.int m) (putF "straight" (.ref q) []))
def AtlAt (H : Hp) (p : Addr) (a b c : Int) : Prop := ∃ dx q, H p = some (.ins (CA K) dx (af q)) ∧ StrAt K H q a b c
def RstAt (H : Hp) (p : Addr) (a b m r : Int) : Prop := ∃ dx q, H p = some (.ins (CR K) dx (rf q m r)) ∧ StrAt K H q a b 0
end
theorem sm_ : ¬ (("straight" : Str) = "modulus") := by decide +kernel
theorem sr_ : ¬ (("straight" : Str) = "rest") := by decide +kernel
theorem mr_ : ¬ (("modulus" : Str) = "rest") := by decide +kernel
theorem af_s (q : Addr) : (af q).lookup ("straight" : Str) = some (.ref q) := by
  unfold af
  rw [lookup_putF, if_pos rfl]
theorem af_no (q : Addr) {m : Str} (h1 : ¬ m = "straight") : (af q).lookup m = none := by
  unfold af
  rw [lookup_putF, if_neg h1]
  rfl
theorem rf_s (q : Addr) (m r : Int) : (rf q m r).lookup ("straight" : Str) = some (.ref q) := by
  unfold rf
  rw [lookup_putF, if_neg sr_, lookup_putF, if_neg sm_, lookup_putF, if_pos rfl]
theorem rf_m (q : Addr) (m r : Int) : (rf q m r).lookup ("modulus" : Str) = some (.int m) := by
  unfold rf
  rw [lookup_putF, if_neg mr_, lookup_putF, if_pos rfl]
theorem rf_r (q : Addr) (m r : Int) : (rf q m r).lookup ("rest" : Str) = some (.int r) := by
  unfold rf
  rw [lookup_putF, if_pos rfl]
theorem rf_no (q : Addr) (k r : Int) {m : Str} (h1 : ¬ m = "straight") (h2 : ¬ m = "modulus") (h3 : ¬ m = "rest") : (rf q k r).lookup m = none := by
  unfold rf
  rw [lookup_putF, if_neg h3, lookup_putF, if_neg h2, lookup_putF, if_neg h1]
  rfl
variable {K : PySem.W.Frag}
theorem AtlAt.same {H H' : Hp} {p : Addr} {a b c : Int} (h : AtlAt K H p a b c) (s : Same H H') : AtlAt K H' p a b c := by
  obtain ⟨dx, q, h, h2⟩ := h
  exact ⟨dx, q, s _ _ h, h2.same s⟩
theorem RstAt.same {H H' : Hp} {p : Addr} {a b m r : Int} (h : RstAt K H p a b m r) (s : Same H H') : RstAt K H' p a b m r := by
  obtain ⟨dx, q, h, h2⟩ := h
  exact ⟨dx, q, s _ _ h, h2.same s⟩
theorem AtlAt.keep {H H' : Hp} {p q : Addr} {a b c : Int} {t : Nat} (h : AtlAt K H p a b c) (hp : Pen H q t) (k : Keep q H H') : AtlAt K H' p a b c := by
  obtain ⟨dx, r, h, h2⟩ := h
  exact ⟨dx, r, k _ _ (hp.ne h fun _ z => by cases z) h, h2.keep hp k⟩
theorem RstAt.keep {H H' : Hp} {p q : Addr} {a b m r : Int} {t : Nat} (h : RstAt K H p a b m r) (hp : Pen H q t) (k : Keep q H H') : RstAt K H' p a b m r := by
  obtain ⟨dx, r, h, h2⟩ := h
  exact ⟨dx, r, k _ _ (hp.ne h fun _ z => by cases z) h, h2.keep hp k⟩
structure CoTx (K : PySem.W.Frag) (mg : Str → Option Value) : Prop extends StTx K mg where
  gA : mg "AtLeast" = some (.ref (CA K))
  clA : Cls K (CA K)
  mkA : Mk K (CA K) (He.ma K (CA K) "__init__")
  nAS : NoAttr K (CA K) "straight"
  gR : mg "Rest" = some (.ref (CR K))
  clR : Cls K (CR K)
  mkR : Mk K (CR K) (He.ma K (CR K) "__init__")
  nRS : NoAttr K (CR K) "straight"
  nRM : NoAttr K (CR K) "modulus"
  nRR : NoAttr K (CR K) "rest"
  gcd : mg "gcd" = some (.builtin "math.gcd")
  topM : ∃ t, mg "TOP_MODULUS" = some (.int 4 t)
section
variable (K : PySem.W.Frag)
def NewA (H : Hp) (a b c : Int) (Q : VK) : Prop := ∀ p H', Same H H' → AtlAt K H' p a b c → Q (.ref p) H'
def NewR (H : Hp) (a b m r : Int) (Q : VK) : Prop := ∀ p H', Same H H' → RstAt K H' p a b m r → Q (.ref p) H'
def spIntFrom : Sp := fun vs H Q _ => ∃ v lo hi : Int, vs = [.int v, .int lo, .int hi] ∧ Q (.bl (decide (lo ≤ v ∧ v ≤ hi))) H
def spAI : Sp := fun vs H Q _ => ∃ (p dx : Addr) (v : V) (a b c : Int), vs = [.ref p, v] ∧ H p = some (.ins (CA K) dx []) ∧ SumV K H v a b c ∧ g2 a b < 1073741824 ∧
  ∀ q H', H' p = some (.ins (CA K) dx (af q)) → StrAt K H' q (a.fdiv (g2 a b)) (b.fdiv (g2 a b)) (lf3 a b c) → Keep p H H' → Q .non H'
/-- what Rest(v, m, r) asks -/
def rRst (v : V) (m r : Int) (H : Hp) (ok : Int → Int → Int → Prop) (E : XK) : Prop := ∃ a b c, SumV K H v a b c ∧ (¬ (2 ≤ m ∧ m ≤ 4) → BadN K H "modulus" (.int m) E) ∧ (2 ≤ m → m ≤ 4 → ¬ (0 ≤ r ∧ r ≤ m - 1) → BadN K H "rest" (.int r) E) ∧ (2 ≤ m → m ≤ 4 → 0 ≤ r → r ≤ m - 1 → ok a b c)
def spRI : Sp := fun vs H Q E => ∃ (p dx : Addr) (v : V) (m r : Int), vs = [.ref p, v, .int m, .int r] ∧ H p = some (.ins (CR K) dx []) ∧
  rRst K v m r H (fun a b c => ∀ q H', H' p = some (.ins (CR K) dx (rf q m ((r - c).fmod m))) → StrAt K H' q (a.fmod m) (b.fmod m) 0 → Keep p H H' → Q .non H') E
end
end Z

set_option maxHeartbeats 4000000
namespace Z
open PySem PySem.Spec PyProof.Rows L2
section
variable {prog : Program} {w : World} {A : Around} {E : Value → Shared → Prop} {s : Shared} {x C : Addr} {K : PySem.W.Frag} {ox : Obj} {od : Option Obj} {name : Str} {pl : Sem Bool} {Q : Value × List Value → Shared → Prop}
/-- x.m(..) where m is no name of the class: what the field holds is called -/
theorem method_fld (X : K.In s.heap) (I : PySem.W.InstAt s.heap x ox C od) (hga : PySem.W.findIn K (.ref C) "__getattribute__" = some (some (.builtin "object.__getattribute__"))) (hk : PySem.W.findIn K (.ref C) "__getattr__" = some none)
    (hf : PySem.W.findIn K (.ref C) name = some none) (h : wpAny (model prog w) A (getAttr (.ref x) name) (fun u s' => Q (u, []) s') E s) : wpAny (model prog w) A (getMethod (.ref x) name pl) Q E s := by
  have hcan := PySem.F.canon_object_ga
  unfold getMethod specialOf
  refine wpAny_bind (wpAny_bind (I.type.here ((PySem.W.looks_findIn X hga).here ?_)))
  dsimp only
  rw [hcan, if_neg (by decide)]
  refine wpAny_bind (wpAny_bind (I.type.here ((PySem.W.looks_findIn X hk).here ?_)))
  refine wpAny_bind (wpAny_bind (I.type.here ((PySem.W.looks_findIn X hf).here ?_)))
  exact wpAny_bind (wpAny_mono h (fun u s' q => wpAny_pure q) fun _ _ z => z)
end
section
variable {X : Cx} {CX : CXT} {k : Nat} {g C2 : Addr} {sp : Sp} {E : XK} {o e : Expr} {es : List Expr} {m : Str} {apos pos : Pos} {ta : TE} {t : TA} {pl : Sem Bool}
/-- o.f(e, ..), f a field that holds an instance of C2 -/
def tFCall (X : Cx) (C2 : Addr) (m : Str) (sp : Sp) (E : XK) (ta : TE) (t : TA) : TE := fun σ H Q => ta σ H fun x H1 => ∃ a C dx fs q, x = .ref a ∧ H1 a = some (.ins C dx fs) ∧ Cls X.K C ∧ NoAttr X.K C m ∧ fs.lookup m = some (.ref q) ∧ t σ H1 fun vs H2 => (∃ dx fs, H2 q = some (.ins C2 dx fs)) ∧ sp (.ref q :: vs) H2 Q E
theorem pe_fcall (he : PE X o ta) (c : StX.CallO X.K C2 g) (F : FnR X.prog X.w X.K X.mg X.base CX k g sp) (hr : Room k X.A) (hx : Passes CX X E) (ha : PA X (e :: es) t)
    (ht : eval (.Call (.Attribute o m apos) (e :: es) [] pos) X.env = (do
      let ov ← eval o X.env
      standAt apos.atName
      let (f, first) ← holding [ov] (getMethod ov m pl)
      callWith pos f first (backTo pos (starEach (e :: es) X.env)) (backToKw pos (keywordEach [] X.env))) := by rfl)
    (hst : starEach (e :: es) X.env = (false, eval e X.env) :: starEach es X.env := by rfl) (hpl : (backTo pos (starEach es X.env)).any (·.1) = false := by rfl) :
    PE X (.Call (.Attribute o m apos) (e :: es) [] pos) (tFCall X C2 m sp E ta t) := by
  refine ⟨fun pins s σ H Q I h => ?_⟩
  refine PySem.W.methodCall_KW (pl := pl) (thn (he.run pins s σ H _ I h) fun u s1 ⟨x, H1, I1, rx, a, C, dx, fs, q, ex, ea, cl, na, l, q1⟩ => ?_) ht
  subst ex
  obtain rfl : u = Value.ref a := rx
  obtain ⟨od, J⟩ := ins_at I1 ea
  refine method_fld I1.kIn J (PySem.W.plainGet_of (cl.get m)).1 (PySem.W.plainGet_of (cl.get m)).2 na (getattr_ok I1 ea cl na l fun u' s2 I2 ru => ?_)
  obtain rfl : u' = Value.ref q := ru
  refine StX.callO_with (thn (ha.run pos pins s2 σ H1 _ I2 q1) fun us s3 ⟨vs, H2, I3, r, hi, q2⟩ => ?_) hst hpl
  have hi2 : StX.InsC X H2 q C2 := .inr hi
  obtain ⟨ox, od, J, hd⟩ := StX.insC_at I3 hi2
  exact ⟨⟨C2, ox, od, J, hd⟩, StX.run_callO c F hr hx I3 hi2 r q2⟩
end
end Z
namespace Z
open PySem PySem.Spec PyProof.Rows L2
section
variable {X : Cx} {K : PySem.W.Frag} {CX : CXT} {k : Nat} {f C : Addr} {fd : FuncData} {ps : List Str} {sp : Sp} {o e : Expr} {es : List Expr} {m : Str} {apos pos : Pos} {ta : TE} {t : TA} {pl : Sem Bool} {W : WX}
/-- o.m(e, ..) in a try, m a method that may raise -/
theorem pe_methT (tk : Takes X W) (hK : X.K = K) (he : PE X o ta) (c : Cls K C) (hm : Meth K C m f) (F : FnOk X.prog X.w K X.mg X.base (L2.CX X.prog X.w) k f fd ps sp) (hr : Room k X.A) (hb : Binds K fd ps []) (ha : PA X (e :: es) t)
    (ht : eval (.Call (.Attribute o m apos) (e :: es) [] pos) X.env = (do
      let ov ← eval o X.env
      standAt apos.atName
      let (f, first) ← holding [ov] (getMethod ov m pl)
      callWith pos f first (backTo pos (starEach (e :: es) X.env)) (backToKw pos (keywordEach [] X.env))) := by rfl)
    (hst : starEach (e :: es) X.env = (false, eval e X.env) :: starEach es X.env := by rfl) (hpl : (backTo pos (starEach es X.env)).any (·.1) = false := by rfl) :
    PE X (.Call (.Attribute o m apos) (e :: es) [] pos) (fun σ H Q => ta σ H fun x H1 => ∃ a dx fs, x = .ref a ∧ H1 a = some (.ins C dx fs) ∧ fs.lookup m = none ∧ t σ H1 fun vs H2 => sp (x :: vs) H2 Q (WE W σ)) := by
  subst hK
  refine ⟨fun pins s σ H Q I h => ?_⟩
  refine PySem.W.methodCall_KW (pl := pl) (thn (he.run pins s σ H _ I h) fun u s1 ⟨x, H1, I1, rx, a, dx, fs, ex, ea, l, q⟩ => ?_) ht
  subst ex
  obtain rfl : u = Value.ref a := rx
  refine getmeth_ok I1 ea c hm l ?_
  refine PySem.W.callWith_K (first := [.ref a]) (h₀ := X.base) I.ok.mod.kin hm.kp (thn (ha.run pos pins s1 σ H1 _ I1 q) fun us s2 ⟨vs, H2, I2, r, q2⟩ => ⟨I2.kIn, ?_⟩) hst hpl
  exact run_fnS (E := WE W) (us := .ref a :: us) (vs := .ref a :: vs) F hr hb (passAt tk σ) I2 (.cons rfl r) q2
end
theorem if_w {b : Bool} {A : Prop} {j : Int} {σ : L2.St} {H : Hp} {Q : VK} (W : Int → Hp → Prop) (h1 : (∀ v H', W v H' → Q (.int v) H') → A) (h2 : b = false → W j H) (h3 : ∀ v H', W v H' → Q (.int v) H') : if b = true then A else tC (.int j) σ H Q := by
  cases b
  · exact h3 _ _ (h2 rfl)
  · exact h1 h3
end Z

set_option maxHeartbeats 4000000
namespace Z
open PySem PySem.Spec PyProof.Rows L2
/-! ### several clauses 'except C as n' -/
/-- the ends of a suite behind which slot i is bare -/
def bare (i : Nat) (D : Ends) : Ends := { nx := fun σ' H' => D.nx (σ'.set i none) H', rt := D.rt, bk := fun σ' H' => D.bk (σ'.set i none) H', ct := fun σ' H' => D.ct (σ'.set i none) H' }
abbrev Clause : Type := Value × Nat × (Addr → Value → Option Addr → TS)
def wClauses (K : PySem.W.Frag) (Wout : WX) (D : Ends) : List Clause → WX
  | [] => Wout
  | q :: r => fun cls d σ H => ∃ b, PySem.W.exmOne K cls q.1 = some b ∧ (b = true → ∀ a, H a = none → q.2.2 a cls d (bare q.2.1 D) (σ.set q.2.1 (some (.ref a))) H) ∧ (b = false → wClauses K Wout D r cls d σ H)
inductive Clauses (X : Cx) : List ExceptHandler → List Clause → Prop
  | nil : Clauses X [] []
  | cons {x n : Str} {c : Value} {i : Nat} {ts : Addr → Value → Option Addr → TS} {b₀ : Stmt} {suite : List Stmt} {np q : Pos} {hds : List ExceptHandler} {l : List Clause} (hi : X.N[i]? = some n) (hl : X.env.kindOf n = some .local) (hc : Names X x c)
      (hsu : ∀ (a : Addr) (oe : Obj) (cls : Value) (d : Option Addr) (pn : List (Addr × Obj)), Zc cls d oe → (∃ vs, oe.data = .fields vs) → PSs (X.suite a ((a, oe) :: pn)) (b₀ :: suite) (ts a cls d)) (r : Clauses X hds l) :
      Clauses X (.ExceptHandler (some (.Name x np)) (some n) (b₀ :: suite) q :: hds) ((c, i, ts) :: l)
section
variable {X : Cx} {body : List Stmt} {h₀ : ExceptHandler} {hds : List ExceptHandler} {l : List Clause} {pos : Pos} {tb : WX → TS} {Wout : WX}
theorem ps_try_asMany (hs : X.stack = X.env :: X.outer) (hf : X.env.frame = some X.env.locals) (hN : X.N.Nodup) (tk : Takes X Wout)
    (hb : ∀ (W : WX) (pn : List (Addr × Obj)) (xe : Value → Shared → Prop), Takes (X.tr pn xe) W → PassesOwn (model X.prog X.w) X.A X.env xe → PSs (X.tr pn xe) body (tb W))
    (hh : Clauses X (h₀ :: hds) l) : PS X (.Try body (h₀ :: hds) [] [] pos) (fun D σ H => tb (wClauses X.K Wout D l) D σ H) := by
  refine ⟨fun pins s σ H D I h => ?_⟩
  have ok := I.ok
  have frm : X.A.frames = some (X.env :: X.outer) := ok.frames.trans (congrArg some hs)
  have out : ∀ {f : Flow} {s1 : Shared}, SP (X.tr (X.pn ++ pins) (fun e s₁ => wpAny (model X.prog X.w) X.A (noteFrame e X.env) (fun _ s₂ => wpAny (model X.prog X.w) X.A (setFlight e none) (fun _ s₃ => wpAny (model X.prog X.w) X.A (handleBy e X.env (h₀ :: hds)) (SP X pins D) X.xe s₃) X.xe s₂) X.xe s₁)) [] D f s1 → SP X pins D f s1 := by
    intro f s1 z
    cases f with
    | next => exact z.elim fun σ' z => z.elim fun H' z => ⟨σ', H', z.1.ofTry ok, z.2⟩
    | brk => exact z.elim fun σ' z => z.elim fun H' z => ⟨σ', H', z.1.ofTry ok, z.2⟩
    | cont => exact z.elim fun σ' z => z.elim fun H' z => ⟨σ', H', z.1.ofTry ok, z.2⟩
    | ret u => exact z.elim fun v z => z.elim fun σ' z => z.elim fun H' z => ⟨v, σ', H', z.1.ofTry ok, z.2⟩
  refine wpAny_Try_except (wpAny_mono ((hb (wClauses X.K Wout D l) (X.pn ++ pins) _ (fun u s' xx => ?_) PassesOwn.looking).run [] s σ H D (I.toTry _) h) (fun f s1 z => ?_) fun e s1 he => he)
  · obtain ⟨a, B, sI, pins', σ', H', cls, d, rfl, J', nb, up, sky, na, os, ag, w⟩ := xx
    have J : Inv X pins σ' H' sI := J'.ofTry ok
    have sky' : Sky B (X.env :: X.outer) a (Zc cls d) X.env.locals s'.heap := hs ▸ sky
    show wpAny (model X.prog X.w) X.A (noteFrame (.ref a) X.env) _ _ _
    refine Sky.land Zc.steady frm hf sky' fun h3 fl3 up3 => ?_
    have up13 := up.trans up3
    obtain ⟨oe3, vs3, he3, hz3, hd3⟩ := fl3.there
    have J3 : Inv X pins σ' H' { s' with heap := h3 } := J.landed nb fl3.1 up13 os ag
    have far : a ∉ frs (X.env :: X.outer) := fun hm => (fl3.2.2.1.mem hm).elim fun _ z => z.elim fun o' z => by
      have e' := z.1
      rw [he3] at e'
      exact z.2 _ (Option.some.inj e' ▸ hd3)
    have nL : a ≠ X.env.locals := fun z => far (List.mem_filterMap.mpr ⟨X.env, .head _, by rw [hf, z]⟩)
    have nF : a ∉ X.fs := fun hm => (List.mem_filterMap.mp hm).elim fun e z => far (List.mem_filterMap.mpr ⟨e, .tail _ z.1, z.2⟩)
    have S3 := J3.suite he3 hd3 na nL nF
    have tyE : PySem.W.Looks (model X.prog X.w) h3 (typeOf (.ref a)) cls := fun A Q E s k q => wpAny_typeOf_ref (k _ _ he3) (by rw [hz3.1]; exact q)
    suffices walk : ∀ {hds' : List ExceptHandler} {l' : List Clause}, Clauses X hds' l' → wClauses X.K Wout D l' cls d σ' H' → wpAny (model X.prog X.w) X.A (handleBy (.ref a) X.env hds') (SP X pins D) X.xe { s' with heap := h3 } from walk hh w
    intro hds' l' hk
    induction hk with
    | nil =>
      intro w
      refine wpAny_handleBy_nil ?_
      obtain ⟨k1, k2, k3, oe, vs, T, oT, ts', he, hz, hd, h1, hr⟩ := id fl3
      unfold PySem.passOn
      refine wpAny_bind (wpAny_field he hd h1 ?_)
      rw [if_neg (show ¬ ((Value.ref T == Value.none) = true) from by simp)]
      have fin : wpAny (model X.prog X.w) X.A (setFlight (.ref a) X.env.frame) (fun _ s4 => wpAny (model X.prog X.w) X.A (throw (.ref a) : Sem Flow) (SP X pins D) X.xe s4) X.xe { s' with heap := h3 } := by
        rw [hf]
        exact HandSPX.setFlight_upZ fl3 fun h4 hh4 up4 => wpAny_throw (tk _ _ ⟨a, B, sI, pins, σ', H', cls, d, rfl, J, nb, up13.trans up4, .inr (.inr (by rw [hs]; exact hh4)), na, os, ag, w⟩)
      first
        | exact wpAny_bind (wpAny_pure (wpAny_bind fin))
        | exact wpAny_bind fin
    | @cons x n c i ts b₀ suite np q hds2 l2 hi hln hc hsu r ih =>
      intro w
      obtain ⟨b, hb1, hyes, hno⟩ := w
      have LM := PySem.W.exm_one (M := model X.prog X.w) (J3.kIn) tyE hb1
      refine wpAny_handleBy_cons (codeAny_handlers_test ?_) (by intro q; cases q)
      have nm : ∀ {Q : Value → Shared → Prop} {E : Value → Shared → Prop}, Q c { s' with heap := h3 } → wpAny (model X.prog X.w) (X.A.mark (some (.ref a))) (eval (.Name x np) X.env) Q E { s' with heap := h3 } := fun {Q E} y => by
        rcases hc with ⟨g1, g2, m1 | ⟨m1, m2, m3⟩⟩
        · exact ld_glob (X := X.suite a ((a, oe3) :: (X.pn ++ pins))) S3 g1 m1 y g2
        · exact ld_blt (X := X.suite a ((a, oe3) :: (X.pn ++ pins))) S3 g1 m1 m2 y m3 g2
      refine nm (LM.here ?_)
      cases b with
      | false => exact ih (hno rfl)
      | true =>
        refine codeAny_handlers_suite_as (HandSPX.lands_againZ fl3 fun h4 fl4 up4 => ?_)
        obtain ⟨oe4, vs4, he4, hz4, hd4⟩ := fl4.there
        have S4 := (J.landed nb fl4.1 (up13.trans up4) os ag : Inv X pins σ' H' { s' with heap := h4 }).suite he4 hd4 na nL nF
        refine store_ok (X := X.suite a ((a, oe4) :: (X.pn ++ pins))) (v := .ref a) S4 hN hi (.inl hln) rfl (fun s5 S5 => ?_) (.inr hln)
        refine wpAny_mono ((hsu a oe4 cls d (X.pn ++ pins) hz4 ⟨_, hd4⟩).run [] s5 _ H' _ S5 (hyes rfl a na)) (fun f s6 hsp => ?_) (fun _ _ z => z.elim)
        have end_ : ∀ {σ6 : L2.St} {H6 : Hp} {Q : Shared → Prop}, Inv (X.suite a ((a, oe4) :: (X.pn ++ pins))) [] σ6 H6 s6 → (∀ s7, Inv X pins (σ6.set i none) H6 s7 → Q s7) →
            wpAny (model X.prog X.w) X.A (do bindName X.env n .none; unbindBehindTheSuite X.env n q) (fun _ s7 => Q s7) X.xe s6 := fun {σ6 H6 Q} S6 hq => gone_ok (S6.unsuite ok) hN hi hln hq
        cases f with
        | ret u => exact hsp.elim fun v z => z.elim fun σ6 z => z.elim fun H6 z => end_ z.1 fun s7 J7 => ⟨_, _, _, J7, z.2.1, z.2.2⟩
        | next => exact hsp.elim fun σ6 z => z.elim fun H6 z => end_ z.1 fun s7 J7 => ⟨_, _, J7, z.2⟩
        | brk => exact hsp.elim fun σ6 z => z.elim fun H6 z => end_ z.1 fun s7 J7 => ⟨_, _, J7, z.2⟩
        | cont => exact hsp.elim fun σ6 z => z.elim fun H6 z => end_ z.1 fun s7 J7 => ⟨_, _, J7, z.2⟩
  · have z2 := out z
    cases f with
    | next => exact wpAny_execs_nil z2
    | brk => exact z2
    | cont => exact z2
    | ret u => exact z2
end
end Z

set_option maxHeartbeats 4000000
namespace Z
open PySem PySem.Spec PyProof.Rows L2
/-! ### the errors of checks, as values -/
inductive Er where
  | num (w : Str) (v : Int)
  | many (w : Str) (m l : Int)
  | name (x : Str)
def Er.cls (K : PySem.W.Frag) : Er → Addr
  | .num _ _ => He.ga K "BadNumber"
  | .many _ _ _ => He.ga K "TooMany"
  | .name _ => He.ga K "BadName"
def Er.fs : Er → List (Str × V)
  | .num w v => [("number", .int v), ("what", .str w)]
  | .many w m l => [("limit", .int l), ("many", .int m), ("what", .str w)]
  | .name x => [("name", .str x)]
section
variable (K : PySem.W.Frag)
/-- the error is raised, all else as it was -/
def Rz (H : Hp) (E : XK) (e : Er) : Prop := ∀ d H', Same H H' → H' d = some (.xd e.fs) → E (.ref (e.cls K)) (some d) H'
/-- .. but for the object at p -/
def RzK (p : Addr) (H : Hp) (E : XK) (e : Er) : Prop := ∀ d H', Keep p H H' → H' d = some (.xd e.fs) → E (.ref (e.cls K)) (some d) H'
end
/-- the first error of all, or what follows -/
def Out (o : Option Er) (r : Er → Prop) (q : Prop) : Prop := (∀ e, o = some e → r e) ∧ (o = none → q)
theorem Out.none {r : Er → Prop} {q : Prop} (h : q) : Out none r q := ⟨fun _ z => (by cases z), fun _ => h⟩
theorem Out.ok {o : Option Er} {r : Er → Prop} {q : Prop} (h : o = Option.none) (k : q) : Out o r q := ⟨fun _ z => (by rw [h] at z; cases z), fun _ => k⟩
theorem Out.bad {o : Option Er} {e : Er} {r : Er → Prop} {q : Prop} (h : o = some e) (k : r e) : Out o r q := ⟨fun e' z => (by rw [h] at z; cases z; exact k), fun z => (by rw [h] at z; cases z)⟩
theorem Out.or {o1 o2 : Option Er} {r r1 : Er → Prop} {q q1 : Prop} (h : Out (o1.or o2) r q) (hr : ∀ e, r e → r1 e) (k : Out o2 r q → q1) : Out o1 r1 q1 := by
  refine ⟨fun e z => hr e (h.1 e (by rw [z]; rfl)), fun z => k ?_⟩
  subst z
  exact h
theorem Out.end_ {o1 : Option Er} {r r1 : Er → Prop} {q q1 : Prop} (h : Out o1 r q) (hr : ∀ e, r e → r1 e) (k : q → q1) : Out o1 r1 q1 := ⟨fun e z => hr e (h.1 e z), fun z => k (h.2 z)⟩
section
variable {K : PySem.W.Frag} {H H1 : Hp} {E : XK} {e : Er} {p : Addr}
theorem Rz.same (h : Rz K H E e) (s : Same H H1) : Rz K H1 E e := fun d H' s' hd => h d H' (s.trans s') hd
theorem RzK.rz (h : RzK K p H E e) (k : Keep p H H1) : Rz K H1 E e := fun d H' s' hd => h d H' (fun b o nb eb => s' _ _ (k b o nb eb)) hd
end
def ckN (w : Str) (v lo hi : Int) : Option Er := if lo ≤ v ∧ v ≤ hi then none else some (.num w v)
def ckM (w : Str) (m l : Int) : Option Er := if m ≤ l then none else some (.many w m l)
def ckS (a b c : Int) : Option Er := (ckN "i" a (-12) 12).or ((ckN "n" b (-12) 12).or (ckN "one" c (-999) 999))
def ckP (a b c d : Int) : Option Er := (ckS a b c).or (ckN "divisor" d 1 3)
def ckR (a b c d : Int) : Option Er := (ckN "i" a 0 0).or ((ckN "n" b 0 3).or ((ckN "one" c (-999) 999).or (ckN "divisor" d 1 3)))
def kept : List Str := ["for", "i", "from", "n", "below", "by", "down", "if", "and", "mod"]
def lets : Str := "abcdefghijklmnopqrstuvwxyz"
def isName (x : Str) : Bool := decide (1 ≤ x.length ∧ x.length ≤ 8) && (x.cps.toList.all (fun c => decide (c ∈ lets.cps.toList)) && decide (x ∉ kept))
def ckA (x : Str) : Option Er := if isName x = true then none else some (.name x)
def ckRead (x : Str) (f a b c d : Int) : Option Er := (ckA x).or ((if f = 0 then some (.num "factor" f) else none).or ((ckN "factor" f (-999) 999).or (ckP a b c d)))
def ckCs : List (Int × Int × Int) → Option Er
  | [] => none
  | q :: r => (ckS q.1 q.2.1 q.2.2).or (ckCs r)
def ckStm (m1 m2 : Int) (x : Str) (cs : List (Int × Int × Int)) (a b c k : Int) : Option Er :=
  (ckM "reads" m1 3).or ((ckM "conditions" m2 3).or ((ckA x).or ((ckCs cs).or ((ckS a b c).or (ckN "constant" k (-999) 999)))))
def ckLoop (m S a1 b1 c1 d1 a2 b2 c2 d2 : Int) : Option Er :=
  (ckM "statements" m 16).or ((ckN "step" S 1 16).or ((ckR a1 b1 c1 d1).or ((ckR a2 b2 c2 d2).or (if 1 < S ∧ 1 < d1 then some (.num "step" S) else none))))
/-! ### calls of what may raise -/
section
variable {X : Cx} {K : PySem.W.Frag} {mg : Str → Option Value} {k j n : Nat} {f C : Addr} {fd : FuncData} {ps ks : List Str} {sp : Sp} {E : L2.St → XK} {x : Str} {p pos : Pos} {e : Expr} {es : List Expr} {kws : List Keyword} {t tk : TA}
/-- a global def that may raise -/
def Dx (P : Program) (w : World) (K : PySem.W.Frag) (mg : Str → Option Value) (base : Heap) (j : Nat) (x : Str) (ps : List Str) (sp : Sp) : Prop :=
  ∃ (f : Addr) (fd : FuncData), FnOk P w K mg base (L2.CX P w) j f fd ps sp ∧ mg x = some (.ref f) ∧ PySem.W.keepIn K (.ref f) = true ∧ Binds K fd ps []
theorem pe_dx (D : Dx X.prog X.w K X.mg X.base j x ps sp) (hK : X.K = K) (hr : Room k X.A) (hx : ∀ σ, PassesAt (L2.CX X.prog X.w) X σ (E σ)) (ha : PA X (e :: es) t) (hjk : j ≤ k := by decide) (hg : Gl X x := by rfl)
    (hdb : (x == ("__debug__" : Str)) = false := by decide) (he : starEach (e :: es) X.env = (false, eval e X.env) :: starEach es X.env := by rfl) (hpl : (backTo pos (starEach es X.env)).any (·.1) = false := by rfl) :
    PE X (.Call (.Name x p) (e :: es) [] pos) (tCallS sp E t) := by
  subst hK
  obtain ⟨f, fd, F, hm, hk, hb⟩ := D
  exact pe_callS F (hr.mono hjk) hg hm hk hb hx ha hdb he hpl
/-- the class C of the name x may be made: __init__ with its promise, and how its parameters are bound -/
structure Mc (P : Program) (w : World) (K : PySem.W.Frag) (mg : Str → Option Value) (base : Heap) (j : Nat) (x : Str) (f : Addr) (fd : FuncData) (ps : List Str) (sp : Sp) : Prop where
  mK : Mk K (He.ga K x) f
  gC : mg x = some (.ref (He.ga K x))
  fn : FnOk P w K mg base (L2.CX P w) j f fd ps sp
/-- C(e, ..): the positional parameters, then the defaults -/
def tMkP (C : Addr) (sp : Sp) (dvs : List V) (E : L2.St → XK) (t : TA) : TE := fun σ H Q => t σ H fun vs H1 => ∀ x dx, H1 x = none → H1 dx = none → dx ≠ x → sp (.ref x :: (vs ++ dvs)) (upd (upd H1 dx (.own x)) x (.ins C dx [])) (fun v H2 => v = .non ∧ Q (.ref x) H2) (E σ)
theorem make_run {CX : CXT} {pins : List (Addr × Obj)} {σ : L2.St} {H : Hp} {s : Shared} {Q : VK} {us : List Value} {kw : List (Str × Value)} {vz : List V} {uz : List Value} {E0 : XK} (M : Mk X.K C f) (F : FnOk X.prog X.w X.K X.mg X.base CX k f fd ps sp) (hr : Room (k + 1) X.A)
    (hx : PassesAt CX X σ E0) (I : L2.Inv X pins σ H s) (vals : ∀ a : Addr, Vals (V.ref a :: vz) (Value.ref a :: uz))
    (bind : ∀ (s' : Shared) (a : Addr), X.K.In s'.heap → BindsTo s' fd ⟨Value.ref a :: us, kw⟩ (ps.zip (Value.ref a :: uz)))
    (h : ∀ x dx, H x = none → H dx = none → dx ≠ x → sp (.ref x :: vz) (upd (upd H dx (.own x)) x (.ins C dx [])) (fun v H2 => v = .non ∧ Q (.ref x) H2) E0) :
    wpAny (model X.prog X.w) X.A (call (.ref C) us kw) (EP X pins σ Q) X.xe s := by
  have q0 := h (s.heap.objs.size + 1) s.heap.objs.size (I.hok.fresh (Nat.le_succ _)) (I.hok.fresh (Nat.le_refl _)) (Nat.ne_of_lt (Nat.lt_succ_self _))
  have J := Inv.made (C := C) I
  refine wpAny_call (make_map (f := f) I.kIn M.makes M.init (beq_iff_eq.mp M.fn) (codeAny_mono (F.run _ X.stack _ _ ⟨Value.ref (s.heap.objs.size + 1) :: us, kw⟩ (Value.ref (s.heap.objs.size + 1) :: uz) _ _ E0 (hr.make C us kw)
    (J.env0.make C us kw) (bind _ _ J.kIn) (vals _) q0) fun r' s' z => ?_))
  cases r' with
  | error e => exact hx pins _ _ e s' J z
  | ok fl =>
    cases fl with
    | ret u =>
      obtain ⟨v, H', I3, rv, ev, q3⟩ := J.after z
      subst ev
      exact ⟨rv, ⟨V.ref (s.heap.objs.size + 1), H', I3, rfl, q3⟩⟩
    | next => exact False.elim z
    | brk => exact False.elim z
    | cont => exact False.elim z
theorem pe_mkP {dvs : List V} {ds : List Value} (M : Mc X.prog X.w K X.mg X.base j x f fd ps sp) (hK : X.K = K) (hb : Binds K fd ps ds) (hd : Vals dvs ds) (hr : Room k X.A) (hx : ∀ σ, PassesAt (L2.CX X.prog X.w) X σ (E σ)) (ha : PA X (e :: es) t) (hjk : j + 1 ≤ k := by decide) (hg : Gl X x := by rfl)
    (hdb : (x == ("__debug__" : Str)) = false := by decide) (he : starEach (e :: es) X.env = (false, eval e X.env) :: starEach es X.env := by rfl) (hpl : (backTo pos (starEach es X.env)).any (·.1) = false := by rfl) :
    PE X (.Call (.Name x p) (e :: es) [] pos) (tMkP (He.ga K x) sp dvs E t) := by
  subst hK
  refine ⟨fun pins s σ H Q I h => ?_⟩
  refine wpAny_Call_Name_kw (ld_glob I hg M.gC ?_ hdb)
  refine PySem.W.callWith_K (h₀ := X.base) I.ok.mod.kin M.mK.kp (thn (ha.run pos pins s σ H _ I h) fun us s1 ⟨vs, H1, I1, r, q⟩ => ⟨I1.kIn, ?_⟩) he hpl
  have q0 := q (s1.heap.objs.size + 1) s1.heap.objs.size (I1.hok.fresh (Nat.le_succ _)) (I1.hok.fresh (Nat.le_refl _)) (Nat.ne_of_lt (Nat.lt_succ_self _))
  have len : ∀ a : Addr, (Value.ref a :: us ++ ds).length = ps.length := fun a => by
    have e := M.fn.len _ _ _ _ q0
    have l1 := r.length
    have l2 := hd.length
    simp only [List.length_cons, List.length_append] at e ⊢
    omega
  exact make_run M.mK M.fn (hr.mono hjk) (hx σ) I1 (fun a => .cons rfl (r.append hd)) (fun s' a k => hb s' (Value.ref a :: us) k (len a)) q
end
section
variable {X : Cx} {K : PySem.W.Frag} {k j n : Nat} {f C : Addr} {fd : FuncData} {ps ks : List Str} {sp : Sp} {E : L2.St → XK} {x : Str} {p pos : Pos} {e : Expr} {es : List Expr} {kws : List Keyword} {t tk : TA} {g : List Value → List Value → List Value} {gV : List V → List V → List V}
theorem pe_mkK (M : Mc X.prog X.w K X.mg X.base j x f fd ps sp) (hK : X.K = K) (hb : KBn K fd ps (n + 1) ks g gV) (hr : Room k X.A) (hx : ∀ σ, PassesAt (L2.CX X.prog X.w) X σ (E σ)) (ha : PA X (e :: es) t) (hkw : PK X kws tk) (hjk : j + 1 ≤ k := by decide) (hg : Gl X x := by rfl)
    (hall : (backToKw pos (keywordEach kws X.env)).all (·.1.isSome) = true := by rfl) (hks : (backToKw pos (keywordEach kws X.env)).filterMap (·.1) = ks := by rfl) (hdb : (x == ("__debug__" : Str)) = false := by decide)
    (he : starEach (e :: es) X.env = (false, eval e X.env) :: starEach es X.env := by rfl) (hpl : ((backTo pos (starEach (e :: es) X.env)).any (·.1) || (backToKw pos (keywordEach kws X.env)).any (·.1.isNone)) = false := by rfl) :
    PE X (.Call (.Name x p) (e :: es) kws pos) (fun σ H Q => t σ H fun vs H1 => tk σ H1 fun zs H2 => vs.length = n ∧ zs.length = ks.length ∧ ∀ y dx, H2 y = none → H2 dx = none → dx ≠ y →
      sp (gV (.ref y :: vs) zs) (upd (upd H2 dx (.own y)) y (.ins (He.ga K x) dx [])) (fun v H3 => v = .non ∧ Q (.ref y) H3) (E σ)) := by
  subst hK
  refine ⟨fun pins s σ H Q I h => ?_⟩
  refine wpAny_Call_Name_kw (ld_glob I hg M.gC ?_ hdb)
  refine PySem.W.callWith_KW (h₀ := X.base) I.ok.mod.kin M.mK.kp hall (thn (ha.run pos pins s σ H _ I h) fun us s1 ⟨vs, H1, I1, r, q⟩ => ?_) hpl he
  refine thn (hkw.run pos pins s1 σ H1 _ I1 q) fun ws s2 ⟨zs, H2, I2, rz, l1, l2, q2⟩ => ⟨I2.kIn, ?_⟩
  rw [hks]
  have q0 := q2 (s2.heap.objs.size + 1) s2.heap.objs.size (I2.hok.fresh (Nat.le_succ _)) (I2.hok.fresh (Nat.le_refl _)) (Nat.ne_of_lt (Nat.lt_succ_self _))
  have I3 := Inv.made (C := He.ga X.K x) I2
  have r1 : Vals (V.ref (s2.heap.objs.size + 1) :: vs) (Value.ref (s2.heap.objs.size + 1) :: us) := .cons rfl r
  have r2 := hb.rel r1 rz
  have n1 : (Value.ref (s2.heap.objs.size + 1) :: us).length = n + 1 := by rw [List.length_cons, ← r.length, l1]
  refine wpAny_call (make_map (f := f) I2.kIn M.mK.makes M.mK.init (beq_iff_eq.mp M.mK.fn) (codeAny_mono (M.fn.run _ X.stack _ _ ⟨Value.ref (s2.heap.objs.size + 1) :: us, ks.zip ws⟩ (g (Value.ref (s2.heap.objs.size + 1) :: us) ws) _ _ (E σ) ((hr.mono hjk).make _ us (ks.zip ws))
    (I3.env0.make _ us (ks.zip ws)) (hb.to _ (Value.ref (s2.heap.objs.size + 1) :: us) ws I3.kIn n1 (rz.length.symm.trans l2)) r2 q0) fun r' s' z => ?_))
  cases r' with
  | error e => exact hx σ pins _ _ e s' I3 z
  | ok fl =>
    cases fl with
    | ret u =>
      obtain ⟨v, H', I4, rv, ev, q3⟩ := I3.after z
      subst ev
      exact ⟨rv, ⟨V.ref (s2.heap.objs.size + 1), H', I4, rfl, q3⟩⟩
    | next => exact False.elim z
    | brk => exact False.elim z
    | cont => exact False.elim z
end
end Z
namespace Z
open PySem PySem.Spec PyProof.Rows L2
section
variable (K : PySem.W.Frag)
/-- Place(v, d), d of any size: only the common divisor must be small -/
def spPG : Sp := fun vs H Q E => ∃ (p dx : Addr) (v : V) (a b c d : Int), vs = [.ref p, v, .int d] ∧ H p = some (.ins (CP K) dx []) ∧ SumV K H v a b c ∧ (d < 1 → BadN K H "divisor" (.int d) E) ∧
  (1 ≤ d → gg a b d < 1073741824 ∧ ∀ q H', H' p = some (.ins (CP K) dx (pf q (d.fdiv (gg a b d)))) → StrAt K H' q (a.fdiv (gg a b d)) (b.fdiv (gg a b d)) (c.fdiv (gg a b d)) → Keep p H H' → Q .non H')
def rPlG (v : V) (d : Int) (H : Hp) (Q : VK) (E : XK) : Prop := ∃ a b c, SumV K H v a b c ∧ (d < 1 → BadN K H "divisor" (.int d) E) ∧ (1 ≤ d → gg a b d < 1073741824 ∧ NewP K H a b c d Q)
def spFdG : Sp := fun vs H Q E => ∃ (p : Addr) (a b c d : Int), vs = [.ref p, .int d] ∧ StrAt K H p a b c ∧ (d < 1 → BadN K H "divisor" (.int d) E) ∧ (1 ≤ d → gg a b d < 1073741824 ∧ NewP K H a b c d Q)
end
end Z

set_option maxHeartbeats 4000000
namespace Z
open PySem PySem.Spec PyProof.Rows L2
/-! ### sets of texts: set(names), sorted(set(names)) -/
def txtOf (e : Int × Value) : Str := match e.2 with | .str k _ => k | _ => Str.empty
def Tx1 (w : World) (e : Int × Value) : Prop := ∃ k u, e.2 = Value.str k u ∧ e.1 = hashStr w k
structure TxBody (w : World) (l : List Str) (es : Array (Int × Value)) (t : SetTable) : Prop where
  one : ∀ e ∈ es.toList, Tx1 w e
  nd : (es.toList.map txtOf).Nodup
  mem : ∀ k, k ∈ l ↔ k ∈ es.toList.map txtOf
  few : es.size < scanBound
  fit : t.fits es.size = true
  ris : Ris t.place.toList
  led : w.params.followText "set-order" = true ∨ t.led = true
/-- the set at a has the texts of l -/
def TxSet (w : World) (h : Heap) (a : Addr) (l : List Str) : Prop := ∃ o es ep t, h.get? a = some o ∧ o.ExactSet ∧ o.data = .set es ep t ∧ TxBody w l es t
section
variable {P : Program} {w : World} {A : Around} {E : Value → Shared → Prop} {s : Shared} {a : Addr} {l : List Str}
theorem TxSet.at {h h' : Heap} (R : TxSet w h a l) (k : ∀ o, h.get? a = some o → h'.get? a = some o) : TxSet w h' a l := by
  obtain ⟨o, es, ep, t, ho, r⟩ := R
  exact ⟨o, es, ep, t, k o ho, r⟩
theorem tx_is {e : Int × Value} (g : Tx1 w e) (k : Str) : (PySem.strKind P w).is k e.2 = true ↔ txtOf e = k := by
  obtain ⟨k0, u, h1, _⟩ := g
  unfold txtOf
  rw [h1]
  show Value.isStrOf k (.str k0 u) = true ↔ k0 = k
  simp only [Value.isStrOf]
  constructor
  · intro z
    exact (of_decide_eq_true z)
  · intro z
    exact decide_eq_true z
theorem tx_elems {es : List (Int × Value)} (g : ∀ e ∈ es, Tx1 w e) : ElemsOf (PySem.strKind P w) es := fun e he => by
  obtain ⟨k, u, h1, h2⟩ := g e he
  exact ⟨⟨k, by rw [h1]; exact PySem.Froz.is_str k u, h2⟩, by rw [h1] <;> rfl⟩
theorem tx_mem {es : List (Int × Value)} (g : ∀ e ∈ es, Tx1 w e) (k : Str) : k ∈ es.map txtOf ↔ ∃ e ∈ es, (PySem.strKind P w).is k e.2 = true := by
  rw [List.mem_map]
  exact ⟨fun ⟨e, he, q⟩ => ⟨e, he, (tx_is (g e he) k).2 q⟩, fun ⟨e, he, q⟩ => ⟨e, he, (tx_is (g e he) k).1 q⟩⟩
theorem tx_perm {es es' : Array (Int × Value)} {t t' : SetTable} (B : TxBody w l es t) (p : es'.toList.Perm es.toList) (hf : t'.fits es'.size = true) (r : Ris t'.place.toList) (e : t'.led = t.led) : TxBody w l es' t' := by
  have sz : es'.size = es.size := by rw [← Array.length_toList, p.length_eq, Array.length_toList]
  exact ⟨fun x hx => B.one x (p.mem_iff.mp hx), (p.map txtOf).nodup_iff.mpr B.nd, fun k => (B.mem k).trans (p.map txtOf).mem_iff.symm, sz ▸ B.few, hf, r, B.led.imp id fun z => e.trans z⟩
theorem len_sub {α : Type} [DecidableEq α] : ∀ (m l : List α), m.Nodup → (∀ x ∈ m, x ∈ l) → m.length ≤ l.length
  | [], l, _, _ => Nat.zero_le _
  | x :: m, l, d, h => by
    obtain ⟨d1, d2⟩ := List.nodup_cons.mp d
    have q := len_sub m (l.erase x) d2 fun y hy => (List.mem_erase_of_ne (fun (z : y = x) => d1 (by rw [← z]; exact hy))).mpr (h y (.tail _ hy))
    have hx := List.length_erase_of_mem (h x (.head _))
    have hp := List.length_pos_of_mem (h x (.head _))
    simp only [List.length_cons]
    omega
theorem TxBody.size {es : Array (Int × Value)} {t : SetTable} (B : TxBody w l es t) : es.size ≤ l.length := by
  have q := len_sub (es.toList.map txtOf) l B.nd fun x hx => (B.mem x).2 hx
  rw [List.length_map, Array.length_toList] at q
  exact q
/-- the new entries are stored, the table laid anew where it is too full -/
theorem tx_store {g : Bool → Sem Unit} (hg : ∀ (b : Bool) (s₁ : Shared) (Q' : Unit → Shared → Prop), Q' () s₁ → wpAny (model P w) A (g b) Q' E s₁) {o : Obj} {es es1 : Array (Int × Value)} {ep : Nat} {t t2 : SetTable} {dm : Bool}
    {R : Option Bool → Shared → Prop} (ho : s.heap.get? a = some o) (hx : o.ExactSet) (hd : o.data = .set es ep t) (B : TxBody w l es1 t2) (k : ∀ h', Heap.SameBut a s.heap h' → TxSet w h' a l → R (some true) { s with heap := h' }) :
    wpAny (model P w) A (do
        storeSet a es1 t2
        if (!dm && t2.tooFull) = true then do
            g (relayAll t2 es1 (SetTable.grown es1.size)).2.2
            storeSet a (relayAll t2 es1 (SetTable.grown es1.size)).1 (relayAll t2 es1 (SetTable.grown es1.size)).2.1
            pure (some true)
          else pure (some true)) R E s := by
  have h1 := store_at (es' := es1) (t' := t2) ho hd
  have b1 := Heap.SameBut.update s.heap a (Obj.putSet es1 t2)
  refine wpAny_bind (wpAny_storeSet_of ho hd ?_ (fits_of_scanBound B.few))
  split
  · have pm := relayAll_perm t2 es1 (SetTable.grown es1.size)
    have B2 := tx_perm B pm (relayAll_fits t2 es1 (SetTable.grown es1.size)) (relayAll_ris t2 es1 (SetTable.grown es1.size)) (relayAll_led t2 es1 (SetTable.grown es1.size))
    refine wpAny_bind (hg _ _ _ (wpAny_bind (wpAny_storeSet_of h1 rfl (wpAny_pure ?_) (fits_of_scanBound B2.few))))
    exact k _ (b1.trans (Heap.SameBut.update _ a _)) ⟨_, _, _, _, store_at h1 rfl, hx, rfl, B2⟩
  · exact wpAny_pure (k _ b1 ⟨_, es1, _, t2, h1, hx, rfl, B⟩)
theorem tx_add {x : Str} {u : Tok} {Q : Bool → Shared → Prop} (R : TxSet w s.heap a l) (room : l.length + 1 < scanBound) (k : ∀ h' b, Heap.SameBut a s.heap h' → TxSet w h' a (x :: l) → Q b { s with heap := h' }) : wpAny (model P w) A (setAddHashed a (.str x u) (hashStr w x)) Q E s := by
  obtain ⟨o, es, ep, t, ho, hx, hd, B⟩ := R
  have hsz := B.size
  have key : (PySem.strKind P w).is x (.str x u) = true := PySem.Froz.is_str x u
  have el : ElemsOf (PySem.strKind P w) es.toList := tx_elems B.one
  have sc : (Value.str x u).scannable = true := rfl
  unfold setAddHashed setAddHashedIn
  refine wpAny_holding (wpAny_bind (wpAny_setState_of ho hd B.fit ?_))
  dsimp only
  rw [byScan_of sc B.few el]
  simp only [↓reduceIte]
  unfold setAddByScan
  refine wpAny_bind (wpAny_bind (wpAny_rule (wpAny_bind (wpAny_setScan_of (knd := PySem.strKind P w) (k := x) key ho hd B.fit el ?_))))
  cases fi : List.findIdx? (fun e => (PySem.strKind P w).is x e.2) es.toList with
  | some j =>
    dsimp only
    obtain ⟨hj, pj, _⟩ := List.findIdx?_eq_some_iff_getElem.mp fi
    have xin : x ∈ l := (B.mem x).2 ((tx_mem (P := P) B.one x).2 ⟨es.toList[j], List.getElem_mem hj, pj⟩)
    refine wpAny_pure (wpAny_pure (k s.heap _ (Heap.SameBut.refl a s.heap) ⟨o, es, ep, t, ho, hx, hd, B.one, B.nd, fun y => ?_, B.few, B.fit, B.ris, B.led⟩))
    rw [List.mem_cons, ← B.mem y]
    exact ⟨fun z => z.elim (fun e => e ▸ xin) id, .inr⟩
  | none =>
    dsimp only
    have xno : x ∉ es.toList.map txtOf := fun z => by
      obtain ⟨e, he, q⟩ := (tx_mem (P := P) B.one x).1 z
      have c := List.findIdx?_eq_none_iff.mp fi e he
      rw [q] at c
      cases c
    have gave : ∀ (b : Bool) {s₁ : Shared} {Q' : Unit → Shared → Prop}, Q' () s₁ → wpAny (model P w) A (match b with | true => rule "set.scan.the-table-gave-way" | false => pure ()) Q' E s₁ :=
      fun b s₁ Q' q => by cases b <;> first | exact wpAny_pure q | exact wpAny_rule q
    have pm := layNew_perm t es (hashStr w x) (.str x u)
    have f1 := layNew_fits t es (hashStr w x) (.str x u)
    have r1 := layNew_ris t es (hashStr w x) (.str x u) B.ris
    have l1 := layNew_led t es (hashStr w x) (.str x u)
    show wpAny _ _ _ _ _ _
    have eh : (PySem.strKind P w).hash x = hashStr w x := rfl
    generalize layNew t es (hashStr w x) (.str x u) = Z at pm f1 r1 l1 ⊢
    obtain ⟨es1, t1, dm, gv⟩ := Z
    dsimp only at pm f1 r1 l1 ⊢
    rw [Array.toList_push] at pm
    have pc : es1.toList.Perm ((hashStr w x, Value.str x u) :: es.toList) := pm.trans (List.perm_append_singleton _ _)
    have pk : (es1.toList.map txtOf).Perm (x :: es.toList.map txtOf) := pc.map txtOf
    have sz : es1.size = es.size + 1 := by rw [← Array.length_toList, pc.length_eq, List.length_cons, Array.length_toList]
    have B1 : ∀ t' : SetTable, t'.fits es1.size = true → Ris t'.place.toList → t'.led = t.led → TxBody w (x :: l) es1 t' := fun t' q1 q2 q3 => {
      one := fun e he => by
        rcases List.mem_cons.mp (pc.mem_iff.mp he) with z | z
        · exact ⟨x, u, by rw [z], by rw [z]⟩
        · exact B.one e z
      nd := pk.nodup_iff.mpr (List.nodup_cons.mpr ⟨xno, B.nd⟩)
      mem := fun y => by rw [pk.mem_iff, List.mem_cons, List.mem_cons, B.mem y]
      few := by omega
      fit := q1
      ris := q2
      led := B.led.imp id fun z => q3.trans z }
    refine wpAny_bind (gave _ ?_)
    split
    · refine wpAny_bind ?_
      rw [hashByValue_scannable 8 sc]
      refine wpAny_pure ?_
      refine tx_store (l := x :: l) ?_ ho hx hd (B1 _ ?_ ?_ ?_) ?_
      · intro b s₁ Q' q; cases b <;> first | exact wpAny_pure q | exact wpAny_rule q
      · first | (split <;> first | exact f1 | exact SetTable.fits_plain_off f1) | exact f1
      · first | (split <;> exact r1) | exact r1
      · first | (split <;> exact l1) | exact l1
      · intro h' sb r; dsimp only; exact wpAny_pure (k h' _ sb r)
    · refine wpAny_bind (wpAny_pure ?_)
      simp only [↓reduceIte]
      refine tx_store (l := x :: l) ?_ ho hx hd (B1 _ f1 r1 l1) ?_
      · intro b s₁ Q' q; cases b <;> first | exact wpAny_pure q | exact wpAny_rule q
      · intro h' sb r; dsimp only; exact wpAny_pure (k h' _ sb r)
theorem tx_new {h : Heap} (ho : h.get? a = some { cls := .type "set", dict := none, data := .set #[] 0 (.fresh 0 0 (!w.params.followText "set-order")) }) : TxSet w h a [] :=
  ⟨_, #[], 0, _, ho, ⟨rfl, rfl, rfl⟩, rfl, ⟨fun e he => by simp at he, by simp, fun k => by simp, by decide, rfl, List.Pairwise.nil, by
    show _ ∨ (!w.params.followText "set-order") = true
    cases w.params.followText "set-order"
    · exact .inr rfl
    · exact .inl rfl⟩⟩
/-- the loop by which the set takes the items -/
theorem tx_update {I : Addr} {fp wr : List Addr} {G : Array GenState → Array GenState → Prop} {n : Nat} {Pv : Nat → Value → Prop} {St : Nat → Shared → Prop} {R : Result → Shared → Prop} (W : WalksS P w A.in1 I fp wr G n Pv St) (S : Addr) (hS : S ∉ fp)
    (xs : List Str) (hn : n = xs.length) (few : xs.length + 1 < scanBound) (item : ∀ i v, Pv i v → ∃ k t, xs[i]? = some k ∧ v = .str k t) (j : Nat) :
    ∀ (i : Nat) (s : Shared), n - i = j → i ≤ n → St i s → TxSet w s.heap S (xs.take i).reverse →
      (∀ s', Moved (S :: wr) G s s' → TxSet w s'.heap S xs.reverse → R (.ok (.ret .none)) s') → codeAny (model P w) A (.builtin "set.update.loop" ⟨[.ref S, .ref I], []⟩) R s := by
  have hw : S ∉ wr := fun h => hS (W.sub _ h)
  have sub : ∀ b ∈ wr, b ∈ S :: wr := fun b hb => .tail _ hb
  induction j with
  | zero =>
    intro i s e hi st hs hR
    obtain rfl : i = n := by omega
    refine codeAny_builtin F.entry_set_update_loop ?_
    rw [Around.under_plainId F.plain_set_update_loop _]
    refine wpAny_bind (m := pyNext (.ref I)) (W.done s _ _ st fun s' hm => ?_)
    rw [List.take_of_length_le (Nat.le_of_eq hn.symm)] at hs
    exact wpAny_pure (hR s' (hm.mono sub) (hs.at fun o e => hm.heap S o hw e))
  | succ j ih =>
    intro i s e hi st hs hR
    have lt : i < n := by omega
    refine codeAny_builtin F.entry_set_update_loop ?_
    rw [Around.under_plainId F.plain_set_update_loop _]
    refine wpAny_bind (m := pyNext (.ref I)) (W.item i s _ _ lt st fun v s' hp st' hm => ?_)
    obtain ⟨z, t, hz, rfl⟩ := item i v hp
    have hs' := hs.at (h' := s'.heap) fun o e => hm.heap S o hw e
    refine wpAny_bind (m := holding [Value.str z t] (setAdd S (.str z t))) (wpAny_holding ?_)
    unfold setAdd
    refine wpAny_holding (wpAny_bind ((PySem.strKind P w).pyHash (k := z) (PySem.Froz.is_str z t) ?_))
    have len : (xs.take i).reverse.length = i := by
      rw [List.length_reverse, List.length_take]
      omega
    refine tx_add (s := { s' with toks := s'.toks + 1 }) hs' (by rw [len]; omega) fun h' b sb hs2 => ?_
    have nx : (xs.take (i + 1)).reverse = z :: (xs.take i).reverse := by
      rw [List.take_add_one, hz, List.reverse_append] <;> rfl
    refine wpAny_pure ⟨plainId_quiet F.plain_set_update_loop _, ih (i + 1) _ (by omega) lt (W.frame _ s' _ _ st' (Nat.le_succ _) fun c hc o e => (sb.2 c fun y => hS (y ▸ hc)).trans e) (by rw [nx]; exact hs2) fun s'' hm2 hs3 => ?_⟩
    exact hR s'' (Moved.trans W.gtrans ((hm.mono sub).then_heap (Nat.le_succ _) fun c o hc e => (sb.2 c fun y => hc (y ▸ .head _)).trans e) hm2) hs3
theorem tx_item : ∀ {us : List Value} {xs : List Str}, StrsAre us xs → ∀ (i : Nat) (v : Value), us[i]? = some v → ∃ k t, xs[i]? = some k ∧ v = .str k t
  | _, _, .nil, i, v, h => by simp at h
  | _, _, .cons y t r, 0, v, h => ⟨y, t, rfl, by simpa using h.symm⟩
  | _, _, .cons y t r, i + 1, v, h => by
    obtain ⟨k, t2, e1, e2⟩ := tx_item r i v (by simpa using h)
    exact ⟨k, t2, by simpa using e1, e2⟩
set_option maxHeartbeats 6400000 in
/-- set(xs) -/
theorem tx_call {l : Addr} {items : Array Value} (xs : List Str) {Q : Value → Shared → Prop} (hh : A.handled = none) (hl : s.heap.IsList l items) (hi : StrsAre items.toList xs) (few : xs.length + 1 < scanBound)
    (k : ∀ (h' : Heap) (tk : Nat), TxSet w h' s.heap.objs.size xs.reverse → (∀ b o, s.heap.get? b = some o → h'.get? b = some o) → Q (.ref s.heap.objs.size) { s with heap := h', toks := tk }) :
    wpAny (model P w) A (call (.type "set") [.ref l]) Q E s := by
  have hz : items.size = xs.length := by rw [← Array.length_toList, StrsAre.len_eq hi]
  obtain ⟨c, tl, hmro⟩ := F.called_set.mro
  have hmade := F.called_set.made
  have hsub := F.called_set.sub
  refine wpAny_call (codeAny_of_tree ?_)
  show wpAny _ _ (callAny (.type "set") _) _ _ _
  refine wpAny_pure ⟨Code.quiet_builtin _ (by decide +kernel), codeAny_builtin F.entry_type_call ?_⟩
  rw [Around.under_plain (weight_type_call_type "set" [.ref l] []) rfl]
  have h1 := F.called_set.notType
  have h2 := F.called_set.canCreate
  have hct := F.typeCall_set_1 (.ref l)
  repeat (any_goals (first | assumption | wp_step))
  obtain ⟨H0, eH0⟩ : ∃ H0 : Heap, H0 = s.heap.push { cls := .type "set", dict := none, data := .set #[] 0 (.fresh 0 0 (!w.params.followText "set-order")) } := ⟨_, rfl⟩
  refine codeAny_mono (code_set_led1 (.ref l) (E := E) (Q₁ := fun obj s₁ => obj = .ref s.heap.objs.size ∧ s₁ = { s with heap := H0 }) ⟨rfl, by rw [eH0]⟩) fun r s₁ hr => ?_
  have g0 : H0.get? s.heap.objs.size = some { cls := .type "set", dict := none, data := .set #[] 0 (.fresh 0 0 (!w.params.followText "set-order")) } := eH0 ▸ Heap.get?_push_size _ rfl
  have z0 : H0.objs.size = s.heap.objs.size + 1 := by rw [eH0, Heap.size_push]
  have k0 : ∀ b o, s.heap.get? b = some o → H0.get? b = some o := fun b o e => eH0 ▸ Heap.get?_push_of_some _ e
  cases r with
  | error e => exact hr
  | ok fl =>
    cases fl with
    | ret obj =>
      obtain ⟨rfl, rfl⟩ := hr
      have hT : Shared.TypeIs { s with heap := H0 } (.ref s.heap.objs.size) "set" := ⟨_, g0, rfl⟩
      have hli := F.called_set.init.lookup
      have hbi := F.called_set.init.bind (.ref s.heap.objs.size)
      repeat (any_goals (first | assumption | wp_step))
      refine codeAny_mono (codeAny_call_builtin (R := wants (fun r s₂ => r = .none ∧ ∃ h' tk, s₂ = { s with heap := h', toks := tk } ∧ TxSet w h' s.heap.objs.size xs.reverse ∧ ∀ b o, s.heap.get? b = some o → h'.get? b = some o) E)
        F.called_set.init.plain F.entry_set_init (check_set_init_1 hT ?_)) fun r₂ s₂ hr₂ => ?_
      · obtain ⟨⟨ocls, odict, odata, oslots⟩, hol, hcl, nl, hdl⟩ := hl
        simp only at hcl hdl
        subst hcl hdl
        have hol' : H0.get? l = some { cls := .type "list", dict := odict, data := .seq items nl, slots := oslots } := k0 _ _ hol
        have hsls := F.sub_list_set
        have hslf := F.sub_list_frozenset
        have hne : (Value.type "list" == Value.type "dict") = false := by decide
        have hl1 : H0.IsList l items := ⟨_, hol', rfl, nl, rfl⟩
        unfold Builtin.«set.__init__» noKeywords Builtin.Frozenset.updateFrom
        generalize hPI : pyIter = PI
        wp_walk
        subst hPI
        refine wpAny_pyIter_list hl1 (wpAny_bind (wpAny_runValue ?_))
        have lt : l < s.heap.objs.size := Heap.lt_size hol
        have hne : l ≠ H0.objs.size := by rw [z0]; exact Nat.ne_of_lt (Nat.lt_succ_of_lt lt)
        have hno : s.heap.objs.size ∉ [H0.objs.size, l] := by
          simp only [List.mem_cons, List.not_mem_nil, or_false, not_or, z0]
          exact ⟨Nat.ne_of_lt (Nat.lt_succ_self _), Nat.ne_of_gt lt⟩
        refine tx_update ((Walks.list (by simp [hh]) _ l hne items).toS) s.heap.objs.size hno xs hz few (fun i v hv => ?_) (items.size - 0) 0 _ (by omega) (Nat.zero_le _) ⟨⟨_, Heap.get?_push_size _ rfl, rfl, rfl⟩, (hl1.push _)⟩ (tx_new (Heap.get?_push_of_some _ g0)) ?_
        · exact tx_item hi i v (by rw [Array.getElem?_toList]; exact hv)
        · intro s' hm hs'
          obtain ⟨h', g', d', tk', os'⟩ := s'
          have eg : g' = s.gens := hm.gens
          have ed : d' = s.drawn := hm.drawn
          have eo : os' = s.os := hm.os
          subst eg ed eo
          refine wpAny_pure (wpAny_pure (M := model P w) ⟨rfl, h', tk', rfl, hs', fun b o e => ?_⟩)
          have lb : b < s.heap.objs.size := Heap.lt_size e
          refine hm.heap b o ?_ (Heap.get?_push_of_some _ (k0 _ _ e))
          simp only [List.mem_cons, List.not_mem_nil, or_false, not_or]
          exact ⟨Nat.ne_of_lt lb, by rw [z0]; exact Nat.ne_of_lt (Nat.lt_succ_of_lt lb)⟩
      · cases r₂ with
        | error e => exact hr₂
        | ok fl₂ =>
          cases fl₂ with
          | ret r =>
            obtain ⟨rfl, h', tk, rfl, hs', hk'⟩ := hr₂
            repeat (any_goals (first | assumption | wp_step))
            exact k _ _ hs' hk'
          | _ => exact hr₂.elim
    | _ => exact hr.elim
/-- sorted(found) -/
theorem tx_sorted {Q : Value → Shared → Prop} (R : TxSet w s.heap a l) (hh : A.handled = none)
    (k : ∀ s' p (out : Array Value) (c : Nat) (ys : List Str), (∀ b o, s.heap.get? b = some o → s'.heap.get? b = some o) → s'.gens = s.gens → s'.os = s.os → s.heap.objs.size ≤ p → s'.heap.get? p = some (seqObj "list" out c) →
      StrsAre out.toList ys → ys.Nodup → (∀ x, x ∈ ys ↔ x ∈ l) → sortedS ys = true → Q (.ref p) s') : wpAny (model P w) A (call (.builtin "sorted") [.ref a]) Q E s := by
  obtain ⟨o, es, ep, t, ho, hx, hd, B⟩ := R
  refine Calls.call_function_entry kind_sorted plain_sorted entry_sorted (args_sorted1 _) ?_
  unfold Builtin.«sorted»
  refine wpAny_bind (m := checkCount "sorted" 1 1 _) (wpAny_pure ?_)
  refine wpAny_bind (collect_set (A := A.in1) hh ⟨o, ho, hx.1, hd⟩ B.fit B.few B.ris B.led fun s1 vs k1 hz g1 o1 pm => ?_)
  have vl : vs.length = es.size := by rw [pm.length_eq, List.length_map, Array.length_toList]
  have h1 : ∀ v ∈ vs, ∃ k u, v = Value.str k u := fun v hv => by
    obtain ⟨e, he, q⟩ := List.mem_map.mp (pm.mem_iff.mp hv)
    obtain ⟨k, u, h1, _⟩ := B.one e he
    exact ⟨k, u, by rw [← q]; exact h1⟩
  have hS : StrsAre vs (vs.map fun v => txtOf (0, v)) := by
    clear pm vl
    induction vs with
    | nil => exact .nil
    | cons v vs ih =>
      obtain ⟨k, u, rfl⟩ := h1 v (.head _)
      exact .cons k u (ih fun v hv => h1 v (.tail _ hv))
  have pk : (vs.map fun v => txtOf (0, v)).Perm (es.toList.map txtOf) := by
    have q := pm.map fun v => txtOf (0, v)
    rw [List.map_map] at q
    exact q
  have few : vs.length ≤ sizeLine := by
    have := B.few
    rw [vl]
    exact fits_of_scanBound this
  refine wpAny_bind (wpAny_newList ?_ few)
  have hoL : (s1.heap.push (seqObj "list" vs.toArray 0)).get? s1.heap.objs.size = some (seqObj "list" vs.toArray 0) := Heap.get?_push_size _ rfl
  refine wpAny_bind (wpAny_holding (wpAny_call_entry slot_list_sort ⟨_, hoL, rfl⟩ entry_list_sort
    (list_sort_treeKAny strKind_oneLt hoL hS.keysOf (fun v₁ v₂ rest e => keyKind_strs (by rw [← e]; exact hS)) few fun st' hp hs => ⟨_, rfl, ?_⟩) (args_list_sort _)))
  obtain ⟨ys, a1, a2, a3⟩ := sorted_out_str hS hp hs
  obtain ⟨c, hc⟩ := sortedHeap_at (vs := vs) (out := (arrOf st').map (·.2)) hoL
  have pn : ys.Perm (es.toList.map txtOf) := a2.trans pk
  refine wpAny_pure ⟨_, rfl, k _ s1.heap.objs.size _ c ys (fun b u e => ?_) g1 o1 hz hc a1 (pn.nodup_iff.mpr B.nd) (fun x => by rw [pn.mem_iff, B.mem x]) a3⟩
  have q := k1 b u e
  have hlt := Heap.lt_size q
  show (sortedHeap (s1.heap.push (seqObj "list" vs.toArray 0)) s1.heap.objs.size vs _).get? b = some u
  rw [sortedHeap_old (Nat.ne_of_lt hlt) (by rw [Heap.size_push]; exact Nat.lt_succ_of_lt hlt)]
  exact Heap.get?_push_of_some _ q
end
/-! ### by values -/
def TxO (w : World) (a : Addr) (l : List Str) : HO := .ext fun h => TxSet w h a l
theorem txO_new {w : World} {P : Program} {H : Hp} {h : Heap} {a : Addr} {l : List Str} (R : TxSet w h a l) : ObjOk P w H h a (TxO w a l) := by
  have ⟨o, es, ep, t, ho, r⟩ := R
  refine ⟨R, ⟨o, ho⟩, fun h1 h2 p k => ?_⟩
  have ⟨o', es', ep', t', ho', r'⟩ := (show TxSet w h1 a l from p)
  exact ⟨o', es', ep', t', k o' ho', r'⟩
section
variable {X : Cx}
/-- set(xs), xs a list of texts -/
def rSetTx (K : PySem.W.Frag) (w : World) : List V → Hp → VK → Prop := fun vs H Q => ∃ (l : Addr) (xs : List Str), vs = [V.ref l] ∧ SqL K H l (xs.map V.str) ∧ xs.length + 1 < scanBound ∧ ∀ a, H a = none → Q (.ref a) (upd H a (TxO w a xs.reverse))
theorem cr_setTx (hc : X.calm = true) : CallR X (.type "set") (rSetTx X.K X.w) := by
  intro pins s σ H vs us Q I r h
  obtain ⟨l, xs, rfl, hl, few, q⟩ := h
  rw [Vals.ref1 r]
  obtain ⟨its, rv, pl, hz⟩ := I.list hl
  have hn : H s.heap.objs.size = none := I.hok.fresh (Nat.le_refl _)
  exact tx_call (P := X.prog) (w := X.w) xs (I.ok.hd hc) pl.isList (by simpa using rv.strs) few fun h' tk R k =>
    ⟨.ref s.heap.objs.size, upd H s.heap.objs.size (TxO X.w s.heap.objs.size xs.reverse), I.laid (t' := tk) k (Nat.le_refl _) (txO_new R), rfl, q _ hn⟩
/-- sorted(found) of such a set -/
def rSortedTx (w : World) : List V → Hp → VK → Prop := fun vs H Q => ∃ (a : Addr) (l : List Str), vs = [V.ref a] ∧ H a = some (TxO w a l) ∧ l.length ≤ 4096 ∧
  ∀ (ys : List Str) (p : Addr), ys.Nodup → (∀ x, x ∈ ys ↔ x ∈ l) → sortedS ys = true → H p = none → Q (.ref p) (upd H p (.lst (ys.map V.str)))
theorem cr_sortedTx (hc : X.calm = true) : CallR X (.builtin "sorted") (rSortedTx X.w) := by
  intro pins s σ H vs us Q I r h
  obtain ⟨a, l, rfl, ha, few, q⟩ := h
  have R : TxSet X.w s.heap a l := (I.hok a _ ha).1
  rw [Vals.ref1 r]
  refine tx_sorted (P := X.prog) R (I.ok.hd hc) fun s' p out c ys k g o hp hg hi nd mem srt => ?_
  have hlen : (ys.map V.str).length ≤ sizeLine := by
    rw [List.length_map, sizeLine_eq]
    have := len_sub ys l nd fun x hx => (mem x).1 hx
    omega
  have hn : H p = none := I.hok.fresh hp
  have J : Inv X pins σ (upd H p (.lst (ys.map V.str))) { s with heap := s'.heap, gens := s'.gens, drawn := s'.drawn, toks := s'.toks } :=
    I.call (ch := []) (Un.laid k hp hn) (I.hok.laid k hp ⟨hlen, out.toList, c, vals_of_strs hi, hg⟩) (by rw [g]; exact I.bare) (fun _ z => nomatch z)
  have e : s' = { s with heap := s'.heap, gens := s'.gens, drawn := s'.drawn, toks := s'.toks } := by
    cases s'
    cases s
    cases o
    rfl
  rw [e]
  exact ⟨.ref p, _, J, rfl, q ys p nd mem srt hn⟩
end
end Z

set_option maxHeartbeats 4000000
namespace Z
open PySem PySem.Spec PyProof.Rows L2
/-- a list or a tuple that is read -/
def SqA (K : PySem.W.Frag) (H : Hp) (a : Addr) (xs : List V) : Prop := SqL K H a xs ∨ SqT K H a xs
/-- a walk of a list or a tuple -/
def iAny (K : PySem.W.Frag) (tl : TE) : TI := fun σ H R => tl σ H fun x H1 => ∃ a, x = .ref a ∧ (((∃ xs, SqL K H1 a xs) ∧ R (Itl K a) H1) ∨ ((∃ xs, SqT K H1 a xs) ∧ R (Itt K a) H1))
theorem pi_any {X : Cx} {tg l : Expr} {tl : TE} (hl : PE X l tl) : PI X tg l (iAny X.K tl) := by
  refine ⟨fun pins s σ H R I h => thn (hl.run pins s σ H _ I h) fun v s1 ⟨x, H1, I1, r1, a, e, q⟩ => ?_⟩
  subst e
  cases r1
  have new : Inv X pins σ H1 s1 → H1 s1.heap.objs.size = none := fun I => I.hok.fresh (Nat.le_refl _)
  rcases q with ⟨⟨xs, hq⟩, q⟩ | ⟨⟨xs, hq⟩, q⟩
  · obtain ⟨its, rv, p, hz⟩ := I1.list hq
    refine wpAny_pyIter_list p.isList ⟨s1.heap.objs.size, [s1.heap.objs.size], _, _, H1, rfl, I1.kept (t' := s1.toks) fun b o e => Heap.get?_push_of_some _ e, turn_list a _, ⟨_, Heap.get?_push_size _ rfl, rfl, rfl⟩, fun b hb => ?_, q⟩
    rw [List.mem_singleton.mp hb]
    exact I1.fpOk (Nat.le_refl _) (new I1)
  · obtain ⟨its, rv, p, hz⟩ := I1.tuple hq
    refine wpAny_pyIter_tuple (show s1.heap.IsTuple a its.toArray from p) ⟨s1.heap.objs.size, [s1.heap.objs.size], _, _, H1, rfl, I1.kept (t' := s1.toks) fun b o e => Heap.get?_push_of_some _ e, turn_tuple a _, ⟨_, Heap.get?_push_size _ rfl, rfl, rfl⟩, fun b hb => ?_, q⟩
    rw [List.mem_singleton.mp hb]
    exact I1.fpOk (Nat.le_refl _) (new I1)
/-- a comprehension over the signs of a text -/
theorem lc_str {x : Str} {g : TG} {tt : TT} {te : TE} {vs : List Nat} {σ : L2.St} {H1 : Hp} {D : Addr} {Qd : Hp → Prop} (Pv : Nat → Hp → Prop) (h0 : Pv 0 (upd H1 D (.lst [])))
    (hs : ∀ i c H, x.cps[i]? = some c → Pv i H → g (.str ⟨#[c]⟩) (wipe σ vs) H fun σ2 H2 => wipe σ2 vs = wipe σ vs ∧ tt σ2 H2 fun b H3 =>
      if b = true then te σ2 H3 fun y H4 => ∃ acc, H4 D = some (.lst acc) ∧ acc.length < sizeLine ∧ Pv (i + 1) (upd H4 D (.lst (acc ++ [y]))) else Pv (i + 1) H3) (hd : ∀ H, Pv x.cps.size H → Qd H) :
    ∃ W : Nat → Nat → Hp → Prop, (∃ m, W 0 m (upd H1 D (.lst []))) ∧ ∀ i m H, W i m H →
      ((Its x).stop i H ∧ Qd H) ∨ ((Its x).go i H ∧ ∃ Nx : Hp → Prop, (∀ H', Nx H' → ∃ m', m' < m ∧ W (i + 1) m' H') ∧ ∀ v H', (Its x).yld i H v H' → g v (wipe σ vs) H' fun σ2 H2 => wipe σ2 vs = wipe σ vs ∧ tt σ2 H2 fun b H3 =>
        if b = true then te σ2 H3 fun y H4 => ∃ acc, H4 D = some (.lst acc) ∧ acc.length < sizeLine ∧ Nx (upd H4 D (.lst (acc ++ [y]))) else Nx H3) := by
  refine ⟨fun i m H => m = x.cps.size - i ∧ i ≤ x.cps.size ∧ Pv i H, ⟨x.cps.size, by simp, Nat.zero_le _, h0⟩, ?_⟩
  rintro i m H ⟨rfl, hi, p⟩
  rcases Nat.lt_or_ge i x.cps.size with lt | ge
  · refine .inr ⟨lt, Pv (i + 1), fun H' p' => ⟨x.cps.size - (i + 1), by omega, rfl, lt, p'⟩, fun v H' y => ?_⟩
    obtain ⟨rfl, c, hc, rfl⟩ := y
    exact hs i c _ hc p
  · obtain rfl : i = x.cps.size := by omega
    exact .inl ⟨Nat.le_refl _, hd H p⟩
end Z
namespace Z
open PySem PySem.Spec PyProof.Rows L2
theorem pe_fldK {X : Cx} {K : PySem.W.Frag} {e : Expr} {n : Str} {te : TE} {pos : Pos} (hK : X.K = K) (he : PE X e te) (hb : attributeBase e n X.env (eval e X.env) = eval e X.env := by rfl) : PE X (.Attribute e n pos) (tFld K te n) := by
  subst hK
  exact pe_fld he hb
end Z

set_option maxHeartbeats 4000000
namespace K23
open PySem PySem.Spec PyProof.Rows L2 Z
/-- the default object of a keyword-only parameter of Statement -/
def kwAt (x : Str) (K : PySem.W.Frag) : Addr := match K.lookup (He.fAd K ("Statement", some "__init__")) with
  | some ⟨_, _, .func fd, _⟩ => (match fd.kwdefaults with
    | .ref D => (match PySem.W.nsIn K D x with
      | some (some (.ref a)) => a
      | _ => 0)
    | _ => 0)
  | _ => 0
end K23
namespace K23
open PySem PySem.Spec PyProof.Rows L2 Z
def top (i : Nat) : Stmt := PySem.Challenge.pw_loopsize_k23_parts_refused_at_their_boun.main.body.getD i (.Pass ⟨0, 0, 0, 0⟩)
abbrev s_wall : Stmt := top 1
abbrev s_is_integer : Stmt := top 10
abbrev s_is_array_name : Stmt := top 11
abbrev s_is_straight : Stmt := top 15
abbrev s_straight_like : Stmt := top 16
abbrev s_place_like : Stmt := top 17
abbrev s_value_of : Stmt := top 18
abbrev s_added : Stmt := top 19
abbrev s_arrays_in : Stmt := top 36
abbrev s_check_many : Stmt := top 37
abbrev s_check_name : Stmt := top 38
abbrev s_check_number : Stmt := top 39
abbrev s_check_sum : Stmt := top 40
abbrev s_check_place : Stmt := top 41
abbrev s_check_range_place : Stmt := top 42
abbrev s_law_pen : Stmt := top 44
abbrev s_law_draw : Stmt := top 45
abbrev s_law_big : Stmt := top 46
abbrev s_law_between : Stmt := top 47
abbrev s_law_far : Stmt := top 48
abbrev s_law_name : Stmt := top 49
abbrev s_law_kept : Stmt := top 50
abbrev s_law_kept_by_loop : Stmt := top 51
abbrev s_law_bounds : Stmt := top 52
abbrev s_law_number_right : Stmt := top 53
abbrev s_law_name_told : Stmt := top 54
abbrev s_law_read_made : Stmt := top 55
abbrev s_law_first_told : Stmt := top 56
abbrev s_law_copies : Stmt := top 57
abbrev s_law : Stmt := top 58
abbrev iBadName__init__ : Stmt := inClass (top 4) 0
abbrev iBadNumber__init__ : Stmt := inClass (top 5) 0
abbrev iTooMany__init__ : Stmt := inClass (top 6) 0
abbrev iStraight__init__ : Stmt := inClass (top 13) 0
abbrev iStraight__call__ : Stmt := inClass (top 13) 1
abbrev iStraight__eq__ : Stmt := inClass (top 13) 2
abbrev iStraight__add__ : Stmt := inClass (top 13) 3
abbrev iStraight__radd__ : Stmt := inClass (top 13) 4
abbrev iStraight__sub__ : Stmt := inClass (top 13) 5
abbrev iStraight__rsub__ : Stmt := inClass (top 13) 6
abbrev iStraight__neg__ : Stmt := inClass (top 13) 7
abbrev iStraight__mul__ : Stmt := inClass (top 13) 8
abbrev iStraight__rmul__ : Stmt := inClass (top 13) 9
abbrev iStraight__floordiv__ : Stmt := inClass (top 13) 10
abbrev iStraightreplaced : Stmt := inClass (top 13) 11
abbrev iPlace__init__ : Stmt := inClass (top 14) 0
abbrev iPlace__call__ : Stmt := inClass (top 14) 1
abbrev iPlace__eq__ : Stmt := inClass (top 14) 2
abbrev iPlacereplaced : Stmt := inClass (top 14) 3
abbrev iAtLeast__init__ : Stmt := inClass (top 21) 0
abbrev iAtLeastholds : Stmt := inClass (top 21) 1
abbrev iAtLeastreplaced : Stmt := inClass (top 21) 2
abbrev iRead__init__ : Stmt := inClass (top 32) 0
abbrev iStatement__init__ : Stmt := inClass (top 33) 0
abbrev iStatementis_done : Stmt := inClass (top 33) 1
abbrev iLoop__init__ : Stmt := inClass (top 34) 0
abbrev iLoopmany_turns : Stmt := inClass (top 34) 1
abbrev iLoopcounter_of : Stmt := inClass (top 34) 2
abbrev iLoopturn_of : Stmt := inClass (top 34) 3
abbrev iLoopleast_counter : Stmt := inClass (top 34) 4
abbrev iProgram__init__ : Stmt := inClass (top 35) 0
def d_wall : He.DefD := ⟨("_wall", none), "_wall", "_wall", defArgs s_wall, defBody s_wall, defScope s_wall, [], []⟩
def d_is_integer : He.DefD := ⟨("is_integer", none), "is_integer", "is_integer", defArgs s_is_integer, defBody s_is_integer, defScope s_is_integer, [], []⟩
def d_is_array_name : He.DefD := ⟨("is_array_name", none), "is_array_name", "is_array_name", defArgs s_is_array_name, defBody s_is_array_name, defScope s_is_array_name, [], []⟩
def d_is_straight : He.DefD := ⟨("is_straight", none), "is_straight", "is_straight", defArgs s_is_straight, defBody s_is_straight, defScope s_is_straight, [], []⟩
def d_straight_like : He.DefD := ⟨("straight_like", none), "straight_like", "straight_like", defArgs s_straight_like, defBody s_straight_like, defScope s_straight_like, [], []⟩
def d_place_like : He.DefD := ⟨("place_like", none), "place_like", "place_like", defArgs s_place_like, defBody s_place_like, defScope s_place_like, [], []⟩
def d_value_of : He.DefD := ⟨("value_of", none), "value_of", "value_of", defArgs s_value_of, defBody s_value_of, defScope s_value_of, [], []⟩
def d_added : He.DefD := ⟨("added", none), "added", "added", defArgs s_added, defBody s_added, defScope s_added, [], []⟩
def d_arrays_in : He.DefD := ⟨("arrays_in", none), "arrays_in", "arrays_in", defArgs s_arrays_in, defBody s_arrays_in, defScope s_arrays_in, [], []⟩
def d_check_many : He.DefD := ⟨("check_many", none), "check_many", "check_many", defArgs s_check_many, defBody s_check_many, defScope s_check_many, [], []⟩
def d_check_name : He.DefD := ⟨("check_name", none), "check_name", "check_name", defArgs s_check_name, defBody s_check_name, defScope s_check_name, [], []⟩
def d_check_number : He.DefD := ⟨("check_number", none), "check_number", "check_number", defArgs s_check_number, defBody s_check_number, defScope s_check_number, [], []⟩
def d_check_sum : He.DefD := ⟨("check_sum", none), "check_sum", "check_sum", defArgs s_check_sum, defBody s_check_sum, defScope s_check_sum, [], []⟩
def d_check_place : He.DefD := ⟨("check_place", none), "check_place", "check_place", defArgs s_check_place, defBody s_check_place, defScope s_check_place, [], []⟩
def d_check_range_place : He.DefD := ⟨("check_range_place", none), "check_range_place", "check_range_place", defArgs s_check_range_place, defBody s_check_range_place, defScope s_check_range_place, [], []⟩
def d_law_pen : He.DefD := ⟨("_law_pen", none), "_law_pen", "_law_pen", defArgs s_law_pen, defBody s_law_pen, defScope s_law_pen, [], []⟩
def d_law_draw : He.DefD := ⟨("_law_draw", none), "_law_draw", "_law_draw", defArgs s_law_draw, defBody s_law_draw, defScope s_law_draw, [], []⟩
def d_law_big : He.DefD := ⟨("_law_big", none), "_law_big", "_law_big", defArgs s_law_big, defBody s_law_big, defScope s_law_big, [], []⟩
def d_law_between : He.DefD := ⟨("_law_between", none), "_law_between", "_law_between", defArgs s_law_between, defBody s_law_between, defScope s_law_between, [], []⟩
def d_law_far : He.DefD := ⟨("_law_far", none), "_law_far", "_law_far", defArgs s_law_far, defBody s_law_far, defScope s_law_far, [], []⟩
def d_law_name : He.DefD := ⟨("_law_name", none), "_law_name", "_law_name", defArgs s_law_name, defBody s_law_name, defScope s_law_name, [], []⟩
def d_law_kept : He.DefD := ⟨("_law_kept", none), "_law_kept", "_law_kept", defArgs s_law_kept, defBody s_law_kept, defScope s_law_kept, [], []⟩
def d_law_kept_by_loop : He.DefD := ⟨("_law_kept_by_loop", none), "_law_kept_by_loop", "_law_kept_by_loop", defArgs s_law_kept_by_loop, defBody s_law_kept_by_loop, defScope s_law_kept_by_loop, [], []⟩
def d_law_bounds : He.DefD := ⟨("_law_bounds", none), "_law_bounds", "_law_bounds", defArgs s_law_bounds, defBody s_law_bounds, defScope s_law_bounds, [], []⟩
def d_law_number_right : He.DefD := ⟨("_law_number_right", none), "_law_number_right", "_law_number_right", defArgs s_law_number_right, defBody s_law_number_right, defScope s_law_number_right, [], []⟩
def d_law_name_told : He.DefD := ⟨("_law_name_told", none), "_law_name_told", "_law_name_told", defArgs s_law_name_told, defBody s_law_name_told, defScope s_law_name_told, [], []⟩
def d_law_read_made : He.DefD := ⟨("_law_read_made", none), "_law_read_made", "_law_read_made", defArgs s_law_read_made, defBody s_law_read_made, defScope s_law_read_made, [], []⟩
def d_law_first_told : He.DefD := ⟨("_law_first_told", none), "_law_first_told", "_law_first_told", defArgs s_law_first_told, defBody s_law_first_told, defScope s_law_first_told, [], []⟩
def d_law_copies : He.DefD := ⟨("_law_copies", none), "_law_copies", "_law_copies", defArgs s_law_copies, defBody s_law_copies, defScope s_law_copies, [], []⟩
def d_law : He.DefD := ⟨("law", none), "law", "law", defArgs s_law, defBody s_law, defScope s_law, [], []⟩
def dBadName__init__ : He.DefD := ⟨("BadName", some "__init__"), "__init__", "BadName.__init__", defArgs iBadName__init__, defBody iBadName__init__, defScope iBadName__init__, [], []⟩
def dBadNumber__init__ : He.DefD := ⟨("BadNumber", some "__init__"), "__init__", "BadNumber.__init__", defArgs iBadNumber__init__, defBody iBadNumber__init__, defScope iBadNumber__init__, [], []⟩
def dTooMany__init__ : He.DefD := ⟨("TooMany", some "__init__"), "__init__", "TooMany.__init__", defArgs iTooMany__init__, defBody iTooMany__init__, defScope iTooMany__init__, [], []⟩
def dStraight__init__ : He.DefD := ⟨("Straight", some "__init__"), "__init__", "Straight.__init__", defArgs iStraight__init__, defBody iStraight__init__, defScope iStraight__init__, [], []⟩
def dStraight__add__ : He.DefD := ⟨("Straight", some "__add__"), "__add__", "Straight.__add__", defArgs iStraight__add__, defBody iStraight__add__, defScope iStraight__add__, [], []⟩
def dStraight__mul__ : He.DefD := ⟨("Straight", some "__mul__"), "__mul__", "Straight.__mul__", defArgs iStraight__mul__, defBody iStraight__mul__, defScope iStraight__mul__, [], []⟩
def dStraight__rmul__ : He.DefD := ⟨("Straight", some "__rmul__"), "__rmul__", "Straight.__rmul__", defArgs iStraight__rmul__, defBody iStraight__rmul__, defScope iStraight__rmul__, [], []⟩
def dStraight__floordiv__ : He.DefD := ⟨("Straight", some "__floordiv__"), "__floordiv__", "Straight.__floordiv__", defArgs iStraight__floordiv__, defBody iStraight__floordiv__, defScope iStraight__floordiv__, [], []⟩
def dPlace__init__ : He.DefD := ⟨("Place", some "__init__"), "__init__", "Place.__init__", defArgs iPlace__init__, defBody iPlace__init__, defScope iPlace__init__, [], []⟩
def dAtLeast__init__ : He.DefD := ⟨("AtLeast", some "__init__"), "__init__", "AtLeast.__init__", defArgs iAtLeast__init__, defBody iAtLeast__init__, defScope iAtLeast__init__, [], []⟩
def dRead__init__ : He.DefD := ⟨("Read", some "__init__"), "__init__", "Read.__init__", defArgs iRead__init__, defBody iRead__init__, defScope iRead__init__, [], [("factor", .int 1)]⟩
def dStatement__init__ : He.DefD := ⟨("Statement", some "__init__"), "__init__", "Statement.__init__", defArgs iStatement__init__, defBody iStatement__init__, defScope iStatement__init__, [], [("reads", .adr (kwAt "reads")), ("conditions", .adr (kwAt "conditions"))]⟩
def dLoop__init__ : He.DefD := ⟨("Loop", some "__init__"), "__init__", "Loop.__init__", defArgs iLoop__init__, defBody iLoop__init__, defScope iLoop__init__, [], [("step", .int 1), ("down", .bl false)]⟩
def dProgram__init__ : He.DefD := ⟨("Program", some "__init__"), "__init__", "Program.__init__", defArgs iProgram__init__, defBody iProgram__init__, defScope iProgram__init__, [], []⟩
def fn0 : List He.DefD := [d_wall, d_is_integer, d_is_array_name, d_is_straight, d_straight_like, d_place_like, d_value_of, d_added]
def fn1 : List He.DefD := [d_arrays_in, d_check_many, d_check_name, d_check_number, d_check_sum, d_check_place, d_check_range_place, d_law_pen]
def fn2 : List He.DefD := [d_law_draw, d_law_big, d_law_between, d_law_far, d_law_name, d_law_kept, d_law_kept_by_loop, d_law_bounds]
def fn3 : List He.DefD := [d_law_number_right, d_law_name_told, d_law_read_made, d_law_first_told, d_law_copies, d_law, dBadName__init__, dBadNumber__init__]
def fn4 : List He.DefD := [dTooMany__init__, dStraight__init__, dStraight__add__, dStraight__mul__, dStraight__rmul__, dStraight__floordiv__, dPlace__init__, dAtLeast__init__]
def fn5 : List He.DefD := [dRead__init__, dStatement__init__, dLoop__init__, dProgram__init__]
def fn : List He.DefD := fn0 ++ fn1 ++ fn2 ++ fn3 ++ fn4 ++ fn5
def glos0 : List Str := ["LoopError", "BadName", "BadNumber", "TooMany", "Straight", "Place", "AtLeast", "Read"]
def glos1 : List Str := ["Statement", "Loop", "Program", "_wall", "is_integer", "is_array_name", "is_straight", "straight_like"]
def glos2 : List Str := ["place_like", "value_of", "added", "arrays_in", "check_many", "check_name", "check_number", "check_sum"]
def glos3 : List Str := ["check_place", "check_range_place", "_law_pen", "_law_draw", "_law_big", "_law_between", "_law_far", "_law_name"]
def glos4 : List Str := ["_law_kept", "_law_kept_by_loop", "_law_bounds", "_law_number_right", "_law_name_told", "_law_read_made", "_law_first_told", "_law_copies"]
def glos5 : List Str := ["law"]
def glos : List Str := glos0 ++ glos1 ++ glos2 ++ glos3 ++ glos4 ++ glos5
def frees0 : List Str := ["int", "len", "list", "isinstance", "range", "str", "bool", "max"]
def frees1 : List Str := ["min", "tuple", "all", "set", "sorted", "ValueError"]
def frees : List Str := frees0 ++ frees1
def owns0 : List Str := ["Straight", "Place", "AtLeast", "Read", "Statement", "Loop", "Program"]
def owns : List Str := owns0
def atts0 : List (Str × Str) := [("Straight", "i"), ("Straight", "n"), ("Straight", "one"), ("Place", "straight"), ("Place", "divisor"), ("AtLeast", "straight"), ("Read", "array"), ("Read", "place")]
def atts1 : List (Str × Str) := [("Read", "factor"), ("Statement", "array"), ("Statement", "cell"), ("Statement", "constant"), ("Statement", "reads"), ("Statement", "conditions"), ("Loop", "low"), ("Loop", "high")]
def atts2 : List (Str × Str) := [("Loop", "statements"), ("Loop", "step"), ("Loop", "down"), ("Program", "loops"), ("Program", "arrays"), ("Program", "known")]
def atts : List (Str × Str) := atts0 ++ atts1 ++ atts2
def mets0 : List (Str × Str) := [("Straight", "__init__"), ("Straight", "__add__"), ("Straight", "__mul__"), ("Straight", "__rmul__"), ("Straight", "__floordiv__"), ("Place", "__init__"), ("AtLeast", "__init__"), ("Read", "__init__")]
def mets1 : List (Str × Str) := [("Statement", "__init__"), ("Loop", "__init__"), ("Program", "__init__")]
def mets : List (Str × Str) := mets0 ++ mets1
def oprs0 : List (Str × String) := [("Straight", "add"), ("Straight", "mul"), ("Straight", "floordiv")]
def oprs : List (Str × String) := oprs0
def excs0 : List (Str × List Str) := [("BadName", ["name"]), ("BadNumber", ["what", "number"]), ("TooMany", ["what", "many", "limit"])]
def excs : List (Str × List Str) := excs0
def kits (K : PySem.W.Frag) : Bool := true && decide (PySem.W.kitOne K (.ref (He.ga K "Straight")) (.type "int") = some false) && decide (PySem.W.kitOne K (.ref (He.ga K "Straight")) (.ref (He.ga K "Straight")) = some true) && decide (PySem.W.kitOne K (.ref (He.ga K "Straight")) (.ref (He.ga K "Place")) = some false) && decide (PySem.W.kitOne K (.ref (He.ga K "Place")) (.ref (He.ga K "Place")) = some true) && decide (PySem.W.kitOne K (.ref (He.ga K "Place")) (.ref (He.ga K "Straight")) = some false) && decide (PySem.W.kitOne K (.ref (He.ga K "Place")) (.type "int") = some false) && decide (PySem.W.kitOne K (.type "int") (.ref (He.ga K "Place")) = some false) && decide (PySem.W.kitOne K (.type "int") (.ref (He.ga K "Straight")) = some false) && decide (PySem.W.kitOne K (.type "int") (.type "int") = some true) && decide (PySem.W.kitOne K (.type "int") (.type "bool") = some false) && decide (PySem.W.kitOne K (.ref (He.ga K "BadNumber")) (.ref (He.ga K "LoopError")) = some true) && decide (PySem.W.kitOne K (.ref (He.ga K "BadNumber")) (.type "ValueError") = some true)
def insB (K : PySem.W.Frag) (C : Addr) : Bool := He.eqO (PySem.W.findIn K (.ref C) "__class__") (some (some (.builtin "object.__class__"))) && (He.eqO (PySem.W.specialIn K (.builtin "object.__class__") "__get__") (some (some (.builtin "getset_descriptor.__get__"))) && (decide (PySem.W.takesIn K (.builtin "object.__class__") = some true) && decide (PySem.W.mroIn K C (.type "object") = some true)))
def fa : List FaK := [
  fun K => glos.all fun x => (He.Fa.glo x).ok K,
  fun K => frees.all fun x => (He.Fa.free x).ok K,
  fun K => owns.all fun x => (He.Fa.cls x).ok K && ((He.Fa.mkr x).ok K && insB K (He.ga K x)),
  fun K => atts.all fun q => (He.Fa.noat q.1 q.2).ok K,
  fun K => mets.all fun q => (He.Fa.meth q.1 q.2).ok K,
  fun K => oprs.all fun q => opiB K (He.ga K q.1) q.2,
  fun K => excs.all fun q => exkB K (He.ga K q.1) && (oexB K (He.ga K q.1) && (He.eqO (PySem.W.findIn K (.ref (He.ga K q.1)) "__init__") (some (some (.ref (He.ma K (He.ga K q.1) "__init__")))) && (decide (PySem.W.typeIn K (.ref (He.ma K (He.ga K q.1) "__init__")) = some (.type "function")) &&
    q.2.all fun f => He.eqO (PySem.W.findIn K (.ref (He.ga K q.1)) f) (some none)))),
  kits,
  fun K => He.eqO (PySem.W.nsIn K mainGlobals "gcd") (some (some (.builtin "math.gcd"))),
  fun K => ([("BadNumber", "BadNumber", true), ("BadName", "BadName", true), ("TooMany", "TooMany", true), ("BadName", "TooMany", false), ("BadNumber", "TooMany", false), ("BadNumber", "BadName", false)] : List (Str × Str × Bool)).all fun q => decide (PySem.W.exmOne K (.ref (He.ga K q.1)) (.ref (He.ga K q.2.1)) = some q.2.2),
  fun K => ([("TOP_PART", 12), ("TOP_ONE", 999), ("TOP_RANGE_PART", 3), ("TOP_DIVISOR", 3), ("TOP_STEP", 16), ("MOST_LOOPS", 6), ("MOST_STATEMENTS", 16), ("MOST_READS", 3), ("MOST_CONDITIONS", 3)] : List (Str × Int)).all fun q => (match PySem.W.nsIn K mainGlobals q.1 with | some (some (.int i _)) => decide (i = q.2) | _ => false),
  fun K => (He.Fa.glo "KEPT_WORDS").ok K && He.tupB K "KEPT_WORDS" (kept.map He.Dv.str),
  fun K => (match PySem.W.nsIn K mainGlobals "LETTERS" with | some (some (.str x _)) => decide (x = lets) | _ => false),
  fun K => (["reads", "conditions"] : List Str).all fun x => (match K.lookup (kwAt x K) with | some ⟨.type c, _, .seq its _, _⟩ => decide (c = "tuple") && decide (its.size = 0) | _ => false)]
abbrev R : PySem.W.OpenRow := PySem.W.OpenLaw.row PySem.Challenge.rw_loopsize_k23_parts_refused_at_their_boun
abbrev hk : PySem.W.Hook := hookR 1000 fa fn
def ob (s : PySem.W.SharedT) : He.AlD := obsRG 1000 fa fn (HandSHeadRun.getT s)
theorem ob_eq (s : PySem.W.SharedT) : ob s = hk.obs s.abs := obsRG_eq (HandSHeadRun.getT_eq s)
def names0 : List Str := ["_wall", "LoopError", "BadName", "BadNumber", "TooMany", "is_integer", "is_array_name", "Straight"]
def names1 : List Str := ["Place", "is_straight", "straight_like", "place_like", "value_of", "added", "AtLeast", "Read"]
def names2 : List Str := ["Statement", "Loop", "Program", "arrays_in", "check_many", "check_name", "check_number", "check_sum"]
def names3 : List Str := ["check_place", "check_range_place", "_law_pen", "_law_draw", "_law_big", "_law_between", "_law_far", "_law_name"]
def names4 : List Str := ["_law_kept", "_law_kept_by_loop", "_law_bounds", "_law_number_right", "_law_name_told", "_law_read_made", "_law_first_told", "_law_copies"]
def names5 : List Str := ["LETTERS", "KEPT_WORDS", "TOP_PART", "TOP_ONE", "TOP_DIVISOR", "TOP_RANGE_PART", "TOP_STEP", "MOST_LOOPS"]
def names6 : List Str := ["MOST_STATEMENTS", "MOST_READS", "MOST_CONDITIONS"]
def names : List Str := names0 ++ names1 ++ names2 ++ names3 ++ names4 ++ names5 ++ names6
end K23

set_option maxHeartbeats 4000000
namespace K23
open PySem PySem.Spec PyProof.Rows L2 Z
/-! ### what the text has written -/
abbrev FnP (K : PySem.W.Frag) (x : Str) (st : Stmt) (f : Addr) (fd : FuncData) : Prop := FunD K x x (defArgs st) (defBody st) (defScope st) [] [] f fd
/-- the built-in names that are still their own -/
structure Bt (mg : Str → Option Value) : Prop where
  int : mg "int" = none
  len : mg "len" = none
  list : mg "list" = none
/-- the pen, its cells at c -/
def PenC (H : Hp) (p c : Addr) (t : Nat) : Prop := ∃ (ns : List Int) (a l : Int), H p = some (.dK (penK c a l)) ∧ H c = some (.lst (ns.map V.int)) ∧ ns.length ≤ 63 ∧ 0 ≤ a ∧ a ≤ (t : Int) ∧ 0 ≤ l
def spDrawC : Sp := fun vs H Q _ => ∃ (p : Addr) (m : Int) (t : Nat) (c : Addr), vs = [.ref p, .int m] ∧ 0 < m ∧ m < 1073741824 ∧ t < 1000000000 ∧ PenC H p c t ∧ ∀ H' (d : Int), 0 ≤ d → d < m → PenC H' p c (t + 1) → Keep p H H' → Q (.int d) H'
theorem PenC.pen {H : Hp} {p c : Addr} {t : Nat} (h : PenC H p c t) : Pen H p t := by
  obtain ⟨ns, a, l, h⟩ := h
  exact ⟨c, ns, a, l, h⟩
theorem Pen.penC {H : Hp} {p : Addr} {t : Nat} (h : Pen H p t) : ∃ c, PenC H p c t := by
  obtain ⟨c, ns, a, l, h⟩ := h
  exact ⟨c, ns, a, l, h⟩
theorem PenC.has {H : Hp} {p c : Addr} {t : Nat} (h : PenC H p c t) : ∃ o, H c = some o := by
  obtain ⟨ns, a, l, _, h, _⟩ := h
  exact ⟨_, h⟩
theorem Dn.imp {P : Program} {w : World} {K : PySem.W.Frag} {mg : Str → Option Value} {base : Heap} {j : Nat} {x : Str} {ps : List Str} {sp sp' : Sp} (D : Dn P w K mg base j x ps sp) (i : ∀ vs H Q E, sp' vs H Q E → sp vs H Q E) : Dn P w K mg base j x ps sp' := by
  obtain ⟨f, fd, F, r⟩ := D
  exact ⟨f, fd, F.imp i, r⟩
theorem draw_of {P : Program} {w : World} {K : PySem.W.Frag} {mg : Str → Option Value} {base : Heap} (D : Dn P w K mg base 1 "_law_draw" ["_law_pen_here", "_law_many"] spDrawC) : Dn P w K mg base 1 "_law_draw" ["_law_pen_here", "_law_many"] spDraw := Dn.imp D fun vs H Q E h => by
  obtain ⟨p, m, t, rfl, h1, h2, h3, hP, k⟩ := h
  obtain ⟨c, hC⟩ := Pen.penC hP
  exact ⟨p, m, t, c, rfl, h1, h2, h3, hC, fun H' d d0 d1 hP' kp => k H' d d0 d1 hP'.pen kp⟩
section
variable {P : Program} {w : World} {K : PySem.W.Frag} {mg : Str → Option Value} {base : Heap}
theorem sc_law_pen : FnScope ["_law_script"] ["_law_script"] (defScope s_law_pen) := ⟨rfl, rfl, rfl, by decide +kernel, rfl, by decide +kernel, by decide +kernel⟩
theorem ok_pen {f : Addr} {fd : FuncData} (F : FnP K "_law_pen" s_law_pen f fd) (T : Bt mg) : FnOk P w K mg base CX0 1 f fd ["_law_script"] (spPen K) := by
  refine F.ok sc_law_pen (fun vs H Q E h => ?_) (fun cdv A outer s H vs Q E hr h => ?_)
  · obtain ⟨a, ns, rfl, _⟩ := h
    rfl
  · obtain ⟨a, ns, rfl, hS, hl, k⟩ := h
    have hu := hu_of hr
    refine ⟨_, PSs.nox (pss_one (ps_ret (pe_disp (pps_cons pe_str (pe_callTy call_list_of (by rfl) T.list (by decide +kernel) (pa_cons (pe_slice sl_list (pv 0) po_none (po_some pe_int)) pa_nil)) (pps_cons pe_str pe_int (pps_cons pe_str pe_int pps_nil))) (by rfl) (by rfl) (fun z => by cases z) (by decide)))), ?_⟩
    intro p hp
    refine ⟨_, rfl, _, rfl, a, ns.map V.int, rfl, ?_, fun q hq => ⟨q, _, rfl, .inl (SqL.of upd_same), fun l hl2 => ?_⟩⟩
    · exact Same.seq (Same.new _ (Same.refl H) hp) hS
    have npq : p ≠ q := fun z => by
      rw [← z, upd_same] at hq
      cases hq
    have npl : p ≠ l := fun z => by
      rw [← z, upd_ne npq, upd_same] at hl2
      cases hl2
    refine ⟨(by rw [upd_ne npl, upd_ne npq, upd_same]), penK l 0 0, rfl, (by show 3 ≤ 15; decide), ?_⟩
    have em : mergeK [] (penK l 0 0) = penK l 0 0 := by
      show putK (putK (putK [] (Sum.inr "cells" : Key) (.ref l)) (Sum.inr "at" : Key) (.int 0)) (Sum.inr "left" : Key) (.int 0) = penK l 0 0
      have e1 : putK ([] : List (Key × V)) (Sum.inr "cells" : Key) (.ref l) = [((Sum.inr "cells" : Key), V.ref l)] := putK_new (kvs := []) _ rfl
      have e2 : putK [((Sum.inr "cells" : Key), V.ref l)] (Sum.inr "at" : Key) (.int 0) = [((Sum.inr "cells" : Key), V.ref l), (Sum.inr "at", V.int 0)] := putK_new _ (by
        rw [valV_neg (key_ne ca_)]
        rfl)
      have e3 : putK [((Sum.inr "cells" : Key), V.ref l), (Sum.inr "at", V.int 0)] (Sum.inr "left" : Key) (.int 0) = penK l 0 0 := putK_new _ (by
        rw [valV_neg (key_ne cl_), valV_neg (key_ne al_)]
        rfl)
      rw [e1, e2, e3]
    rw [em]
    have hc : (cutV (ns.map V.int) none (some 63)) = (ns.map V.int) := by
      unfold cutV
      have e1 : HT.sIx (ns.map V.int).length 0 none = 0 := HT.sIx_none _ _
      have e2 : HT.sIx (ns.map V.int).length (ns.map V.int).length (some 63) = min 63 (ns.map V.int).length := HT.sIx_nat _ _ 63
      rw [e1, e2, List.drop_zero, List.length_map, Nat.sub_zero, Nat.min_eq_right hl, ← List.length_map (f := V.int), List.take_length]
    rw [hc]
    refine k _ p (fun b o e => ?_) hp ⟨l, ns, 0, 0, upd_same, by rw [upd_ne npl.symm, upd_same], hl, Int.le_refl 0, Int.le_refl 0, Int.le_refl 0⟩
    have nbp : b ≠ p := ne_of_none e hp
    have nbq : b ≠ q := fun z => by
      rw [← z, upd_ne nbp] at hq
      rw [hq] at e
      cases e
    have nbl : b ≠ l := fun z => by
      rw [← z, upd_ne nbq, upd_ne nbp] at hl2
      rw [hl2] at e
      cases e
    rw [upd_ne nbp, upd_ne nbl, upd_ne nbq, upd_ne nbp]
    exact e
theorem sc_law_draw : FnScope ["_law_pen_here", "_law_many", "_law_digit", "_law_spot", "_law_cell", "_law_mixed"] ["_law_pen_here", "_law_many"] (defScope s_law_draw) := ⟨rfl, rfl, rfl, by decide +kernel, rfl, by decide +kernel, by decide +kernel⟩
theorem ok_drawC {f : Addr} {fd : FuncData} (F : FnP K "_law_draw" s_law_draw f fd) (T : Bt mg) : FnOk P w K mg base CX0 1 f fd ["_law_pen_here", "_law_many"] spDrawC := by
  refine F.ok sc_law_draw (fun vs H Q E h => ?_) (fun cdv A outer s H vs Q E hr h => ?_)
  · obtain ⟨p, m, t, c, rfl, _⟩ := h
    rfl
  · obtain ⟨p, m, t, c, rfl, hm, hm2, ht, hP, k⟩ := h
    obtain ⟨ns, a, l, h1, h2, h3, h4, h5, h6⟩ := id hP
    have hu := hu_of hr
    have m0 : m ≠ 0 := by omega
    have mb : m.natAbs < 1073741824 := by omega
    have ncp : c ≠ p := ne_of h2 h1 lst_ne_dK
    have z1 : (2147483629 : Int) ≠ 0 := by decide
    have z2 : (2147483647 : Int) ≠ 0 := by decide
    have z3 : (2147483587 : Int) ≠ 0 := by decide
    have z4 : (2147483563 : Int) ≠ 0 := by decide
    refine ⟨_, PSs.nox (pss_cons (ps_if (pt_cmpR op_ge (pe_dget hu (pv 0) pe_str (fun _ _ => rfl)) (pv 1) (nomark _)) (pss_cons (ps_set (i := 2) sc_law_draw.nd rfl (Or.inl rfl) (pe_op op_modN (pe_callTy call_int1 (by rfl) T.int (by decide +kernel) (pa_cons (pe_dget hu (pv 0) pe_str (fun _ _ => rfl)) pa_nil)) (pv 1)))
      (pss_cons (ps_dput hu (pv 0) pe_str (pe_op op_fdivN (pe_dget hu (pv 0) pe_str (fun _ _ => rfl)) (pv 1)) rfl)
      (pss_one (ps_ret (pv 2))))) pss_nil)
      (pss_cons (ps_set (i := 3) sc_law_draw.nd rfl (Or.inl rfl) (pe_dget hu (pv 0) pe_str (fun _ _ => rfl)))
      (pss_cons (ps_dput hu (pv 0) pe_str (pe_op op_add (pv 3) pe_int) rfl)
      (pss_cons (ps_if (pt_cmpR (op_eqD hr.units) (pe_dget hu (pv 0) pe_str (fun _ _ => rfl)) (pe_lst pa_nil) (nomark _)) (pss_one (ps_ret (pe_op op_modN (pe_callTy call_int1 (by rfl) T.int (by decide +kernel) (pa_cons (pe_op op_add (pe_op op_mul pe_int (pv 3)) pe_int) pa_nil)) (pv 1)))) pss_nil)
      (pss_cons (ps_set (i := 4) sc_law_draw.nd rfl (Or.inl rfl) (pe_ix ix_list (pe_dget hu (pv 0) pe_str (fun _ _ => rfl)) (pe_op op_modN (pe_callTy call_int1 (by rfl) T.int (by decide +kernel) (pa_cons (pv 3) pa_nil)) (pe_callB call_len_seq (by rfl) T.len PySem.boot_len (pa_cons (pe_dget hu (pv 0) pe_str (fun _ _ => rfl)) pa_nil))) (fun _ _ => rfl)))
      (pss_cons (ps_if (PW.pt (pw_and (pt_cmpR op_lt (pv 3) (pe_callB call_len_seq (by rfl) T.len PySem.boot_len (pa_cons (pe_dget hu (pv 0) pe_str (fun _ _ => rfl)) pa_nil)) (nomark _)) (pw_and1 (pt_cmpR op_ge (pv 4) (pe_op op_pow pe_int pe_int) (nomark _))))) (pss_cons (ps_dput hu (pv 0) pe_str (pe_op op_fdivN (pe_op op_sub (pv 4) (pe_op op_pow pe_int pe_int)) (pv 1)) rfl)
      (pss_one (ps_ret (pe_op op_modN (pe_callTy call_int1 (by rfl) T.int (by decide +kernel) (pa_cons (pe_op op_sub (pv 4) (pe_op op_pow pe_int pe_int)) pa_nil)) (pv 1))))) pss_nil)
      (pss_cons (ps_set (i := 5) sc_law_draw.nd rfl (Or.inl rfl) (pe_op op_add (pe_op op_add (pe_op op_mul (pe_op op_add (pe_op op_modN (pe_callTy call_int1 (by rfl) T.int (by decide +kernel) (pa_cons (pv 4) pa_nil)) pe_int) pe_int) (pe_op op_add (pe_op op_mul pe_int (pv 3)) pe_int)) (pe_op op_mul (pe_op op_mul pe_int (pv 3)) (pv 3))) pe_int))
      (pss_cons (ps_set (i := 5) sc_law_draw.nd rfl (Or.inl rfl) (pe_op op_modN (pe_callTy call_int1 (by rfl) T.int (by decide +kernel) (pa_cons (pv 5) pa_nil)) pe_int))
      (pss_cons (ps_set (i := 5) sc_law_draw.nd rfl (Or.inl rfl) (pe_op op_modN (pe_callTy call_int1 (by rfl) T.int (by decide +kernel) (pa_cons (pe_op op_mul (pv 5) (pe_op op_add (pv 5) pe_int)) pa_nil)) pe_int))
      (pss_cons (ps_set (i := 5) sc_law_draw.nd rfl (Or.inl rfl) (pe_op op_modN (pe_callTy call_int1 (by rfl) T.int (by decide +kernel) (pa_cons (pe_op op_mul (pv 5) (pv 5)) pa_nil)) pe_int))
      (pss_one (ps_ret (pe_op op_modN (pe_callTy call_int1 (by rfl) T.int (by decide +kernel) (pa_cons (pe_op op_fdivN (pv 5) pe_int) pa_nil)) (pv 1)))))))))))))), ?_⟩
    refine ⟨_, rfl, p, _, rfl, pen_left h1, _, rfl, _, _, rfl, rfl, _, rfl, ?_⟩
    refine ite2 (fun _ => ?_) (fun _ => ?_)
    · refine ⟨_, rfl, p, _, rfl, pen_left h1, .inl ⟨_, rfl, _, rfl, _, _, rfl, rfl, m0, ?_⟩⟩
      refine ⟨_, rfl, p, _, rfl, pen_left h1, _, rfl, _, _, rfl, rfl, ⟨m0, mb⟩, _, rfl, p, _, rfl, pen_put_left _ h1, ?_⟩
      refine ⟨_, rfl, ?_⟩
      exact k _ _ (fmod_range hm).1 (fmod_range hm).2 ⟨ns, a, _, upd_same, by rw [upd_ne ncp]; exact h2, h3, h4, by omega, fdiv_nn h6 hm⟩ (Keep.upd _ (Keep.refl p H))
    · -- spot, at + 1
      refine ⟨_, rfl, p, _, rfl, pen_at h1, ?_⟩
      refine ⟨_, rfl, _, _, rfl, rfl, _, rfl, p, _, rfl, pen_put_at _ h1, ?_⟩
      have g1 : ∀ b, (upd H p (.dK (penK c (a + 1) b))) p = some (.dK (penK c (a + 1) b)) := fun b => upd_same
      have g2 : ∀ o, (upd H p o) c = some (.lst (ns.map V.int)) := fun o => by rw [upd_ne ncp]; exact h2
      have kE : ∀ o, Keep p H (upd H p o) := fun o => Keep.upd _ (Keep.refl p H)
      -- cells == []
      refine ⟨_, rfl, p, _, rfl, pen_cells (g1 _), Nat.zero_le _, fun e he => ?_⟩
      have nep : e ≠ p := fun z => by
        rw [z, upd_same] at he
        cases he
      have nec : e ≠ c := fun z => by
        rw [z, g2] at he
        cases he
      have g1' : ∀ o, (upd (upd H p (.dK (penK c (a + 1) l))) e o) p = some (.dK (penK c (a + 1) l)) := fun o => by rw [upd_ne nep.symm, upd_same]
      have g2' : ∀ o, (upd (upd H p (.dK (penK c (a + 1) l))) e o) c = some (.lst (ns.map V.int)) := fun o => by rw [upd_ne nec.symm]; exact g2 _
      have kE' : ∀ o, Keep p H (upd (upd H p (.dK (penK c (a + 1) l))) e o) := fun o => Keep.new _ (kE _) he
      have pen' : ∀ o, PenC (upd (upd H p (.dK (penK c (a + 1) l))) e o) p c (t + 1) := fun o => ⟨ns, a + 1, l, g1' _, g2' _, h3, by omega, by omega, h6⟩
      refine ⟨.list (ns.map PyData.int), .list [], .lst (SqL.of (g2' _)) (dpAll_ints ns), .lst (SqL.of upd_same) .nil, shaped_ints ns, shaped_nil, _, rfl, ?_⟩
      rw [eqv_ints_nil]
      refine ite2 (fun hc => ?_) (fun hc => ?_)
      · refine ⟨_, rfl, _, _, rfl, rfl, .inl ⟨by decide, by decide⟩, _, _, rfl, rfl, .inl ⟨_, rfl, _, rfl, _, _, rfl, rfl, m0, ?_⟩⟩
        exact k _ _ (fmod_range hm).1 (fmod_range hm).2 (pen' _) (kE' _)
      · have hpos : 0 < ns.length := by
          cases ns with
          | nil => exact absurd rfl hc
          | cons n ns => exact Nat.succ_pos _
        have hposI : (0 : Int) < ((ns.map V.int).length : Int) := by
          rw [List.length_map]
          omega
        have fr := fmod_range (x := a) hposI
        obtain ⟨j, hj⟩ : ∃ j : Nat, a.fmod ((ns.map V.int).length : Int) = (j : Int) := ⟨(a.fmod ((ns.map V.int).length : Int)).toNat, by omega⟩
        have hjl : j < ns.length := by
          have z := fr.2
          rw [hj, List.length_map] at z
          omega
        refine ⟨_, rfl, p, _, rfl, pen_cells (g1' _), _, rfl, .inl ⟨_, rfl, _, rfl, p, _, rfl, pen_cells (g1' _), c, _, rfl, .inl (SqL.of (g2' _)), _, _, rfl, rfl, by omega, ?_⟩⟩
        refine ⟨c, _, (j : Int), _, rfl, congrArg V.int hj, SqL.of (g2' _), atI_nat (get_ints hjl), ?_⟩
        generalize hz : ns[j]'hjl = z
        -- spot < len(cells) and cell >= 10 ** 18
        refine ⟨_, rfl, _, rfl, p, _, rfl, pen_cells (g1' _), c, _, rfl, .inl (SqL.of (g2' _)), _, _, rfl, rfl, _, rfl, ?_⟩
        refine ite2 (fun _ => ?_) (fun _ => iteF ?_)
        · refine ⟨_, rfl, _, _, rfl, rfl, ⟨by decide, by decide, by decide⟩, _, _, rfl, rfl, _, rfl, ?_⟩
          refine ite2 (fun hz18 => ?_) (fun _ => ?_)
          · refine ⟨_, rfl, _, _, rfl, rfl, ⟨by decide, by decide, by decide⟩, _, _, rfl, rfl, _, rfl, _, _, rfl, rfl, ⟨m0, mb⟩, _, rfl, p, _, rfl, pen_put_left _ (g1' _), ?_⟩
            refine ⟨_, rfl, _, _, rfl, rfl, ⟨by decide, by decide, by decide⟩, _, _, rfl, rfl, .inl ⟨_, rfl, _, rfl, _, _, rfl, rfl, m0, ?_⟩⟩
            have hz0 : (0 : Int) ≤ z - 10 ^ (18 : Int).toNat := Int.sub_nonneg_of_le (of_decide_eq_true hz18)
            exact k _ _ (fmod_range hm).1 (fmod_range hm).2 ⟨ns, a + 1, _, upd_same, by rw [upd_ne ncp]; exact g2' _, h3, by omega, by omega, fdiv_nn hz0 hm⟩ (Keep.upd _ (kE' _))
          · refine ⟨_, rfl, .inl ⟨_, rfl, _, _, rfl, rfl, z1, _, _, rfl, rfl, _, rfl, _, _, rfl, rfl, .inl ⟨by decide, by decide⟩, _, _, rfl, rfl, _, _, rfl, rfl, .inl (mul_okf1 (by decide) (by decide)), ?_⟩⟩
            refine ⟨_, rfl, _, _, rfl, rfl, .inl ⟨by decide, by decide⟩, _, rfl, _, _, rfl, rfl, .inr ⟨by omega, by omega⟩, _, _, rfl, rfl, _, _, rfl, rfl, ?_⟩
            refine ⟨_, rfl, .inl ⟨_, rfl, _, _, rfl, rfl, z2, ?_⟩⟩
            refine ⟨_, rfl, _, rfl, _, _, rfl, rfl, _, _, rfl, rfl, .inl (mul_okf (by decide) (by decide)), .inl ⟨_, rfl, _, _, rfl, rfl, z3, ?_⟩⟩
            refine ⟨_, rfl, _, rfl, _, _, rfl, rfl, .inl (mul_okf (by decide) (by decide)), .inl ⟨_, rfl, _, _, rfl, rfl, z4, ?_⟩⟩
            refine ⟨_, rfl, _, _, rfl, rfl, ⟨by decide, by decide⟩, .inl ⟨_, rfl, _, rfl, _, _, rfl, rfl, m0, ?_⟩⟩
            exact k _ _ (fmod_range hm).1 (fmod_range hm).2 (pen' _) (kE' _)
        · refine ⟨_, rfl, .inl ⟨_, rfl, _, _, rfl, rfl, z1, _, _, rfl, rfl, _, rfl, _, _, rfl, rfl, .inl ⟨by decide, by decide⟩, _, _, rfl, rfl, _, _, rfl, rfl, .inl (mul_okf1 (by decide) (by decide)), ?_⟩⟩
          refine ⟨_, rfl, _, _, rfl, rfl, .inl ⟨by decide, by decide⟩, _, rfl, _, _, rfl, rfl, .inr ⟨by omega, by omega⟩, _, _, rfl, rfl, _, _, rfl, rfl, ?_⟩
          refine ⟨_, rfl, .inl ⟨_, rfl, _, _, rfl, rfl, z2, ?_⟩⟩
          refine ⟨_, rfl, _, rfl, _, _, rfl, rfl, _, _, rfl, rfl, .inl (mul_okf (by decide) (by decide)), .inl ⟨_, rfl, _, _, rfl, rfl, z3, ?_⟩⟩
          refine ⟨_, rfl, _, rfl, _, _, rfl, rfl, .inl (mul_okf (by decide) (by decide)), .inl ⟨_, rfl, _, _, rfl, rfl, z4, ?_⟩⟩
          refine ⟨_, rfl, _, _, rfl, rfl, ⟨by decide, by decide⟩, .inl ⟨_, rfl, _, rfl, _, _, rfl, rfl, m0, ?_⟩⟩
          exact k _ _ (fmod_range hm).1 (fmod_range hm).2 (pen' _) (kE' _)
end
end K23

set_option maxHeartbeats 4000000
namespace K23
open PySem PySem.Spec PyProof.Rows L2 Z
/-! ### sums: each def keeps its promise -/
abbrev FnM (K : PySem.W.Frag) (C m q : Str) (st : Stmt) (fd : FuncData) : Prop := FunD K m q (defArgs st) (defBody st) (defScope st) [] [] (He.ma K (He.ga K C) m) fd
section
variable {P : Program} {w : World} {K : PySem.W.Frag} {mg : Str → Option Value} {base : Heap}
/-- what may be called as Straight(a, b, c) -/
def MkS (P : Program) (w : World) (K : PySem.W.Frag) (mg : Str → Option Value) (base : Heap) : Prop := ∃ fd, FnOk P w K mg base CX0 1 (He.ma K (CS K) "__init__") fd ["self", "i", "n", "one"] (spSI K) ∧ Binds K fd ["self", "i", "n", "one"] []
theorem scStraight__init__ : FnScope ["self", "i", "n", "one"] ["self", "i", "n", "one"] (defScope iStraight__init__) := ⟨rfl, rfl, rfl, by decide +kernel, rfl, by decide +kernel, by decide +kernel⟩
theorem mk_S {fd : FuncData} (T : StTx K mg) (F : FnM K "Straight" "__init__" "Straight.__init__" iStraight__init__ fd) : MkS P w K mg base := by
  refine ⟨fd, ?_, F.bindsN fun _ _ _ _ _ _ us hl => match us, hl with | [_, _, _, _], _ => rfl⟩
  refine F.ok scStraight__init__ (fun vs H Q E h => ?_) (fun cdv A outer s H vs Q E hr h => ?_)
  · obtain ⟨p, dx, a, b, c, rfl, _⟩ := h
    rfl
  · obtain ⟨p, dx, a, b, c, rfl, hp, k⟩ := h
    refine ⟨_, PSs.nox (pss_cons (ps_fld (pv 0) (pv 1) rfl)
      (pss_cons (ps_fld (pv 0) (pv 2) rfl)
      (pss_one (ps_fld (pv 0) (pv 3) rfl)))), ?_⟩
    refine ⟨_, rfl, _, rfl, p, _, dx, [], rfl, hp, T.clS, T.nI, (by show 0 < 1000; decide), ?_⟩
    refine ⟨_, rfl, _, rfl, p, _, dx, _, rfl, upd_same, T.clS, T.nN, (by show 1 < 1000; decide), ?_⟩
    refine ⟨_, rfl, _, rfl, p, _, dx, _, rfl, upd_same, T.clS, T.nO, len2 _ _ _ _, ?_⟩
    exact k _ upd_same (fun b o nb e => by rw [upd_ne nb, upd_ne nb, upd_ne nb]; exact e)
theorem pe_S {X : Cx} {e : Expr} {es : List Expr} {t : TA} {p pos : Pos} {k : Nat} (T : StTx X.K X.mg) (M : MkS X.prog X.w X.K X.mg X.base) (hr : Room k X.A) (ha : PA X (e :: es) t) (hk : 2 ≤ k := by decide) (hg : Gl X "Straight" := by rfl)
    (he : starEach (e :: es) X.env = (false, eval e X.env) :: starEach es X.env := by rfl) (hpl : (backTo pos (starEach es X.env)).any (·.1) = false := by rfl) :
    PE X (.Call (.Name "Straight" p) (e :: es) [] pos) (fun σ H Q => t σ H fun vs H1 => ∃ a b c, vs = [.int a, .int b, .int c] ∧ NewS X.K H1 a b c Q) := by
  obtain ⟨fd, F, hb⟩ := M
  refine ⟨fun pins s σ H Q I h => ?_⟩
  refine wpAny_Call_Name_kw (ld_glob I hg T.gS ?_ (by decide))
  refine PySem.W.callWith_K (h₀ := X.base) I.ok.mod.kin T.mkS.kp (thn (ha.run pos pins s σ H _ I h) fun us s1 ⟨vs, H1, I1, r, a, b, c, ev, q⟩ => ⟨I1.kIn, ?_⟩) he hpl
  subst ev
  exact run_make T.mkS F (hr.mono hk) hb .nil pass0 I1 r fun x dx nx nd ne => ⟨x, dx, a, b, c, rfl, upd_same, fun H' hx kp => ⟨rfl, q x H' (Same.made (Same.refl H1) nx nd kp) nx ⟨dx, hx⟩⟩⟩
theorem sc_is_integer : FnScope ["value"] ["value"] (defScope s_is_integer) := ⟨rfl, rfl, rfl, by decide +kernel, rfl, by decide +kernel, by decide +kernel⟩
theorem ok_isInt {f : Addr} {fd : FuncData} (F : FnP K "is_integer" s_is_integer f fd) (T : StTx K mg) : FnOk P w K mg base CX0 1 f fd ["value"] (spIsInt K) := by
  refine F.ok sc_is_integer (fun vs H Q E h => ?_) (fun cdv A outer s H vs Q E hr h => ?_)
  · obtain ⟨v, rfl, _⟩ := h
    rfl
  · obtain ⟨v, rfl, h⟩ := h
    refine ⟨_, PSs.nox (pss_one (ps_ret (pe_and (pe_callB call_isi (by rfl) T.isi (by decide +kernel) (pa_cons (pv 0) (pa_cons (pe_bltn (v := .ty "int") (by rfl) T.int (by decide +kernel) rfl) pa_nil))) (pe_one (pe_not (pe_callB call_isi (by rfl) T.isi (by decide +kernel) (pa_cons (pv 0) (pa_cons (pe_bltn (v := .ty "bool") (by rfl) T.bool (by decide +kernel) rfl) pa_nil)))))))), ?_⟩
    rcases h with ⟨i, rfl, q⟩ | ⟨p, a, b, c, rfl, hp, q⟩
    · refine ⟨_, rfl, _, _, _, _, _, rfl, .ty _, .base (.int i), kii, _, rfl, iteT ?_⟩
      exact ⟨_, rfl, _, _, _, _, _, rfl, .ty _, .base (.int i), kib, _, rfl, q⟩
    · exact ⟨_, rfl, _, _, _, _, _, rfl, .ty _, .base (T.ty hp), T.kSi, _, rfl, iteF q⟩
theorem sc_is_straight : FnScope ["value"] ["value"] (defScope s_is_straight) := ⟨rfl, rfl, rfl, by decide +kernel, rfl, by decide +kernel, by decide +kernel⟩
theorem ok_isStr {f : Addr} {fd : FuncData} (F : FnP K "is_straight" s_is_straight f fd) (T : StTx K mg) (dIsInt : Dn P w K mg base 1 "is_integer" ["value"] (spIsInt K)) : FnOk P w K mg base CX0 2 f fd ["value"] (spIsStr K) := by
  refine F.ok sc_is_straight (fun vs H Q E h => ?_) (fun cdv A outer s H vs Q E hr h => ?_)
  · obtain ⟨v, _, _, _, rfl, _⟩ := h
    rfl
  · obtain ⟨v, a, b, c, rfl, h, q⟩ := h
    refine ⟨_, PSs.nox (pss_one (ps_ret (pe_or (pe_dn dIsInt hr (pa_cons (pv 0) pa_nil)) (pe_one (pe_callB call_isi (by rfl) T.isi (by decide +kernel) (pa_cons (pv 0) (pa_cons (pe_glob (v := .ref (CS K)) rfl T.gS rfl) pa_nil))))))), ?_⟩
    rcases h with ⟨p, rfl, hp⟩ | ⟨rfl, _, _⟩
    · refine ⟨_, rfl, _, rfl, .inr ⟨p, a, b, c, rfl, hp, _, rfl, iteF ?_⟩⟩
      exact ⟨_, rfl, _, _, _, _, _, rfl, .own _, .base (T.ty hp), T.kSS, q⟩
    · exact ⟨_, rfl, _, rfl, .inl ⟨c, rfl, _, rfl, iteT q⟩⟩
theorem sc_straight_like : FnScope ["value"] ["value"] (defScope s_straight_like) := ⟨rfl, rfl, rfl, by decide +kernel, rfl, by decide +kernel, by decide +kernel⟩
theorem ok_like {f : Addr} {fd : FuncData} (F : FnP K "straight_like" s_straight_like f fd) (T : StTx K mg) (M : MkS P w K mg base) : FnOk P w K mg base CX0 3 f fd ["value"] (spLike K) := by
  refine F.ok sc_straight_like (fun vs H Q E h => ?_) (fun cdv A outer s H vs Q E hr h => ?_)
  · obtain ⟨v, _, _, _, rfl, _⟩ := h
    rfl
  · obtain ⟨v, a, b, c, rfl, h, q⟩ := h
    refine ⟨_, PSs.nox (pss_one (ps_ret (pe_ifExp (pt_val (pe_callB call_isi (by rfl) T.isi (by decide +kernel) (pa_cons (pv 0) (pa_cons (pe_glob (v := .ref (CS K)) rfl T.gS rfl) pa_nil)))) (pv 0) (pe_S T M hr (pa_cons pe_int (pa_cons pe_int (pa_cons (pv 0) pa_nil))))))), ?_⟩
    rcases h with ⟨p, rfl, hp⟩ | ⟨rfl, rfl, rfl⟩
    · refine ⟨_, rfl, _, _, _, _, _, rfl, .own _, .base (T.ty hp), T.kSS, _, rfl, iteT ?_⟩
      exact ⟨_, rfl, q p H (Same.refl H) hp⟩
    · refine ⟨_, rfl, _, _, _, _, _, rfl, .own _, .base (.int c), T.kiS, _, rfl, iteF ?_⟩
      exact ⟨_, rfl, 0, 0, c, rfl, fun p H' s _ hp => q p H' s hp⟩
theorem sc_added : FnScope ["one", "other", "sign"] ["one", "other", "sign"] (defScope s_added) := ⟨rfl, rfl, rfl, by decide +kernel, rfl, by decide +kernel, by decide +kernel⟩
theorem ok_added {f : Addr} {fd : FuncData} (F : FnP K "added" s_added f fd) (T : StTx K mg) (M : MkS P w K mg base) : FnOk P w K mg base CX0 3 f fd ["one", "other", "sign"] (spAdded K) := by
  refine F.ok sc_added (fun vs H Q E h => ?_) (fun cdv A outer s H vs Q E hr h => ?_)
  · obtain ⟨p, q, a, b, c, x, y, z, s, rfl, _⟩ := h
    rfl
  · obtain ⟨p, q, a, b, c, x, y, z, s, rfl, ⟨dx, hp⟩, ⟨dy, hq⟩, ss, k⟩ := h
    refine ⟨_, PSs.nox (pss_one (ps_ret (pe_S T M hr (pa_cons (pe_op op_add (pe_fld (pv 0) rfl) (pe_op op_mul (pv 2) (pe_fld (pv 1) rfl))) (pa_cons (pe_op op_add (pe_fld (pv 0) rfl) (pe_op op_mul (pv 2) (pe_fld (pv 1) rfl))) (pa_cons (pe_op op_add (pe_fld (pv 0) rfl) (pe_op op_mul (pv 2) (pe_fld (pv 1) rfl))) pa_nil)))))), ?_⟩
    refine ⟨_, rfl, p, _, dx, _, _, rfl, hp, T.clS, T.nI, sf_i _ _ _, _, rfl, _, rfl, q, _, dy, _, _, rfl, hq, T.clS, T.nI, sf_i _ _ _, _, _, rfl, rfl, .inl ss, _, _, rfl, rfl, ?_⟩
    refine ⟨_, rfl, p, _, dx, _, _, rfl, hp, T.clS, T.nN, sf_n _ _ _, _, rfl, _, rfl, q, _, dy, _, _, rfl, hq, T.clS, T.nN, sf_n _ _ _, _, _, rfl, rfl, .inl ss, _, _, rfl, rfl, ?_⟩
    refine ⟨_, rfl, p, _, dx, _, _, rfl, hp, T.clS, T.nO, sf_one _ _ _, _, rfl, _, rfl, q, _, dy, _, _, rfl, hq, T.clS, T.nO, sf_one _ _ _, _, _, rfl, rfl, .inl ss, _, _, rfl, rfl, ?_⟩
    exact ⟨_, _, _, rfl, k⟩
theorem scStraight__add__ : FnScope ["self", "other"] ["self", "other"] (defScope iStraight__add__) := ⟨rfl, rfl, rfl, by decide +kernel, rfl, by decide +kernel, by decide +kernel⟩
theorem om_SAdd {fd : FuncData} (F : FnM K "Straight" "__add__" "Straight.__add__" iStraight__add__ fd) (T : StTx K mg) (hm : Meth K (CS K) "__add__" (He.ma K (CS K) "__add__")) (dIsStr : Dn P w K mg base 2 "is_straight" ["value"] (spIsStr K)) (dLike : Dn P w K mg base 3 "straight_like" ["value"] (spLike K)) (dAdded : Dn P w K mg base 3 "added" ["one", "other", "sign"] (spAdded K)) : Om P w K mg base (CS K) 4 (dunder "add") (spSAdd K) := by
  refine ⟨_, fd, ["self", "other"], ?_, (by rw [show dunder "add" = ("__add__" : Str) by decide +kernel]; exact hm.at_), hm.fn, F.bindsN fun _ _ _ _ _ _ us hl => match us, hl with | [_, _], _ => rfl⟩
  refine F.ok scStraight__add__ (fun vs H Q E h => ?_) (fun cdv A outer s H vs Q E hr h => ?_)
  · obtain ⟨p, a, b, c, x, y, z, v, rfl, _⟩ := h
    rfl
  · obtain ⟨p, a, b, c, x, y, z, v, rfl, hS, hv, k⟩ := h
    refine ⟨_, PSs.nox (pss_cons (ps_if (pt_not (pt_val (pe_dn dIsStr hr (pa_cons (pv 1) pa_nil)))) (pss_one ps_never) pss_nil)
      (pss_one (ps_ret (pe_dn dAdded hr (pa_cons (pv 0) (pa_cons (pe_dn dLike hr (pa_cons (pv 1) pa_nil)) (pa_cons pe_int pa_nil))))))), ?_⟩
    refine ⟨_, rfl, v, x, y, z, rfl, hv, _, rfl, iteF ?_⟩
    refine ⟨_, rfl, _, rfl, v, x, y, z, rfl, hv, fun q H1 s1 hq => ⟨p, q, a, b, c, x, y, z, 1, rfl, hS.same s1, hq, by unfold Sm; omega, fun r H2 s2 _ hr2 => ?_⟩⟩
    rw [Int.one_mul, Int.one_mul, Int.one_mul] at hr2
    exact k r H2 (s1.trans s2) hr2
end
end K23

set_option maxHeartbeats 4000000
namespace K23
open PySem PySem.Spec PyProof.Rows L2 Z
section
variable {P : Program} {w : World} {K : PySem.W.Frag} {mg : Str → Option Value} {base : Heap}
theorem cm_or {i j : Int} (h : Sm j ∨ Sm i) : CMul i j := h.elim .inr .inl
theorem scStraight__mul__ : FnScope ["self", "other"] ["self", "other"] (defScope iStraight__mul__) := ⟨rfl, rfl, rfl, by decide +kernel, rfl, by decide +kernel, by decide +kernel⟩
theorem om_SMul {fd : FuncData} (F : FnM K "Straight" "__mul__" "Straight.__mul__" iStraight__mul__ fd) (T : StTx K mg) (M : MkS P w K mg base) (hm : Meth K (CS K) "__mul__" (He.ma K (CS K) "__mul__")) (dIsInt : Dn P w K mg base 1 "is_integer" ["value"] (spIsInt K)) : Om P w K mg base (CS K) 3 (dunder "mul") (spSMul K) := by
  refine ⟨_, fd, ["self", "other"], ?_, (by rw [show dunder "mul" = ("__mul__" : Str) by decide +kernel]; exact hm.at_), hm.fn, F.bindsN fun _ _ _ _ _ _ us hl => match us, hl with | [_, _], _ => rfl⟩
  refine F.ok scStraight__mul__ (fun vs H Q E h => ?_) (fun cdv A outer s H vs Q E hr h => ?_)
  · obtain ⟨p, a, b, c, k, rfl, _⟩ := h
    rfl
  · obtain ⟨p, a, b, c, k, rfl, hS, sm, q⟩ := h
    obtain ⟨dx, hp⟩ := id hS
    refine ⟨_, PSs.nox (pss_cons (ps_if (pt_not (pt_val (pe_dn dIsInt hr (pa_cons (pv 1) pa_nil)))) (pss_one ps_never) pss_nil)
      (pss_one (ps_ret (pe_S T M hr (pa_cons (pe_op op_mul (pe_fld (pv 0) rfl) (pv 1)) (pa_cons (pe_op op_mul (pe_fld (pv 0) rfl) (pv 1)) (pa_cons (pe_op op_mul (pe_fld (pv 0) rfl) (pv 1)) pa_nil))))))), ?_⟩
    refine ⟨_, rfl, _, rfl, .inl ⟨k, rfl, _, rfl, iteF ?_⟩⟩
    refine ⟨_, rfl, p, _, dx, _, _, rfl, hp, T.clS, T.nI, sf_i _ _ _, _, rfl, _, _, rfl, rfl, cm_or (sm.imp id fun z => z.1), ?_⟩
    refine ⟨_, rfl, p, _, dx, _, _, rfl, hp, T.clS, T.nN, sf_n _ _ _, _, rfl, _, _, rfl, rfl, cm_or (sm.imp id fun z => z.2.1), ?_⟩
    refine ⟨_, rfl, p, _, dx, _, _, rfl, hp, T.clS, T.nO, sf_one _ _ _, _, rfl, _, _, rfl, rfl, cm_or (sm.imp id fun z => z.2.2), ?_⟩
    exact ⟨_, _, _, rfl, q⟩
theorem scStraight__rmul__ : FnScope ["self", "other"] ["self", "other"] (defScope iStraight__rmul__) := ⟨rfl, rfl, rfl, by decide +kernel, rfl, by decide +kernel, by decide +kernel⟩
theorem om_SRmul {fd : FuncData} (F : FnM K "Straight" "__rmul__" "Straight.__rmul__" iStraight__rmul__ fd) (T : StTx K mg) (M : MkS P w K mg base) (hm : Meth K (CS K) "__rmul__" (He.ma K (CS K) "__rmul__")) (dIsInt : Dn P w K mg base 1 "is_integer" ["value"] (spIsInt K)) : Om P w K mg base (CS K) 3 (dunderR "mul") (spSMul K) := by
  refine ⟨_, fd, ["self", "other"], ?_, (by rw [show dunderR "mul" = ("__rmul__" : Str) by decide +kernel]; exact hm.at_), hm.fn, F.bindsN fun _ _ _ _ _ _ us hl => match us, hl with | [_, _], _ => rfl⟩
  refine F.ok scStraight__rmul__ (fun vs H Q E h => ?_) (fun cdv A outer s H vs Q E hr h => ?_)
  · obtain ⟨p, a, b, c, k, rfl, _⟩ := h
    rfl
  · obtain ⟨p, a, b, c, k, rfl, hS, sm, q⟩ := h
    obtain ⟨dx, hp⟩ := id hS
    refine ⟨_, PSs.nox (pss_cons (ps_if (pt_not (pt_val (pe_dn dIsInt hr (pa_cons (pv 1) pa_nil)))) (pss_one ps_never) pss_nil)
      (pss_one (ps_ret (pe_S T M hr (pa_cons (pe_op op_mul (pe_fld (pv 0) rfl) (pv 1)) (pa_cons (pe_op op_mul (pe_fld (pv 0) rfl) (pv 1)) (pa_cons (pe_op op_mul (pe_fld (pv 0) rfl) (pv 1)) pa_nil))))))), ?_⟩
    refine ⟨_, rfl, _, rfl, .inl ⟨k, rfl, _, rfl, iteF ?_⟩⟩
    refine ⟨_, rfl, p, _, dx, _, _, rfl, hp, T.clS, T.nI, sf_i _ _ _, _, rfl, _, _, rfl, rfl, cm_or (sm.imp id fun z => z.1), ?_⟩
    refine ⟨_, rfl, p, _, dx, _, _, rfl, hp, T.clS, T.nN, sf_n _ _ _, _, rfl, _, _, rfl, rfl, cm_or (sm.imp id fun z => z.2.1), ?_⟩
    refine ⟨_, rfl, p, _, dx, _, _, rfl, hp, T.clS, T.nO, sf_one _ _ _, _, rfl, _, _, rfl, rfl, cm_or (sm.imp id fun z => z.2.2), ?_⟩
    exact ⟨_, _, _, rfl, q⟩
theorem scBadNumber__init__ : FnScope ["self", "what", "number"] ["self", "what", "number"] (defScope iBadNumber__init__) := ⟨rfl, rfl, rfl, by decide +kernel, rfl, by decide +kernel, by decide +kernel⟩
theorem mxBadNumber {fd : FuncData} (T : EC K mg "BadNumber" ["what", "number"]) (F : FnM K "BadNumber" "__init__" "BadNumber.__init__" iBadNumber__init__ fd) : Mx P w K mg base "BadNumber" ["self", "what", "number"] ["what", "number"] := by
  refine ⟨T, fd, ?_, F.bindsN fun _ _ _ _ _ _ us hl => match us, hl with | [_, _, _], _ => rfl⟩
  refine F.ok scBadNumber__init__ (fun vs H Q E h => ?_) (fun cdv A outer s H vs Q E hr h => ⟨_, PSs.nox (pss_cons (ps_ost (pv 0) (pv 1)) (pss_one (ps_ost (pv 0) (pv 2)))), rd_err2 T h⟩)
  obtain ⟨a, ws, rfl, e, _⟩ := h
  rw [List.length_cons, e]
  rfl
/-- what may be called as Place(v, d) -/
def MkP (P : Program) (w : World) (K : PySem.W.Frag) (mg : Str → Option Value) (base : Heap) : Prop := ∃ fd, FnOk P w K mg base (L2.CX P w) 4 (He.ma K (CP K) "__init__") fd ["self", "straight", "divisor"] (spPG K) ∧ Binds K fd ["self", "straight", "divisor"] []
theorem scPlace__init__ : FnScope ["self", "straight", "divisor", "told", "common"] ["self", "straight", "divisor"] (defScope iPlace__init__) := ⟨rfl, rfl, rfl, by decide +kernel, rfl, by decide +kernel, by decide +kernel⟩
theorem mk_P {fd : FuncData} (T : PlTx K mg) (M : MkS P w K mg base) (MB : Mx P w K mg base "BadNumber" ["self", "what", "number"] ["what", "number"]) (dLike : Dn P w K mg base 3 "straight_like" ["value"] (spLike K))
    (F : FnM K "Place" "__init__" "Place.__init__" iPlace__init__ fd) : MkP P w K mg base := by
  refine ⟨fd, ?_, F.bindsN fun _ _ _ _ _ _ us hl => match us, hl with | [_, _, _], _ => rfl⟩
  refine F.ok scPlace__init__ (fun vs H Q E h => ?_) (fun cdv A outer s H vs Q E hr h => ?_)
  · obtain ⟨p, dx, v, a, b, c, d, rfl, _⟩ := h
    rfl
  · obtain ⟨p, dx, v, a, b, c, d, rfl, hp, hv, hbad, hok⟩ := h
    refine ⟨_, (pss_cons (ps_if (pt_cmpR op_lt (pv 2) pe_int (nomark _)) (pss_one (ps_raise rfl (takes_of rfl rfl rfl rfl) (pmk_err MB hr (pa_cons pe_str (pa_cons (pv 2) pa_nil))))) pss_nil)
      (pss_cons (ps_set (i := 3) scPlace__init__.nd rfl (Or.inl rfl) (pe_dn dLike hr (pa_cons (pv 1) pa_nil)))
      (pss_cons (ps_set (i := 4) scPlace__init__.nd rfl (Or.inl rfl) (pe_callBfun cr_gcd (by rfl) T.gcd (pa_cons (pe_callBfun cr_gcd (by rfl) T.gcd (pa_cons (pe_fld (pv 3) rfl) (pa_cons (pe_fld (pv 3) rfl) pa_nil))) (pa_cons (pv 2) pa_nil))))
      (pss_cons (ps_fld (pv 0) (pe_S T.toStTx M hr (pa_cons (pe_op op_fdivN (pe_fld (pv 3) rfl) (pv 4)) (pa_cons (pe_op op_fdivN (pe_fld (pv 3) rfl) (pv 4)) (pa_cons (pe_op op_fdivN (pe_fld (pv 3) rfl) (pv 4)) pa_nil)))) rfl)
      (pss_one (ps_fld (pv 0) (pe_op op_fdivN (pv 2) (pv 4)) rfl)))))), ?_⟩
    refine ⟨_, rfl, _, _, rfl, rfl, _, rfl, ite2 (fun hd => ?_) (fun hd => ?_)⟩
    · exact ⟨_, rfl, err_go (K := K) (x := "BadNumber") (fs := ["what", "number"]) (by show 2 ≤ 1000; decide) rfl fun e H' s he => hbad (of_decide_eq_true hd) e H' s he⟩
    · have d1 : 1 ≤ d := by
        have z : ¬ d < 1 := fun z => hd (decide_eq_true z)
        omega
      obtain ⟨d2, k⟩ := hok d1
      have hg0 : 0 < gg a b d := Nat.gcd_pos_of_pos_right _ (by omega)
      have hgd : gg a b d ≤ d.natAbs := Nat.le_of_dvd (by omega) (Nat.gcd_dvd_right _ _)
      have hgc : CDivN a (gg a b d : Int) ∧ CDivN b (gg a b d : Int) ∧ CDivN c (gg a b d : Int) ∧ CDivN d (gg a b d : Int) := by
        unfold CDivN
        have e : ((gg a b d : Nat) : Int) ≠ 0 ∧ ((gg a b d : Nat) : Int).natAbs < 1073741824 := ⟨by omega, by omega⟩
        exact ⟨e, e, e, e⟩
      obtain ⟨ga_, gb_, gc_, gd_⟩ := hgc
      refine ⟨_, rfl, v, a, b, c, rfl, hv, fun q H1 s1 hq => ?_⟩
      obtain ⟨dq, hq⟩ := hq
      refine ⟨_, rfl, q, _, dq, _, _, rfl, hq, T.clS, T.nI, sf_i _ _ _, _, rfl, q, _, dq, _, _, rfl, hq, T.clS, T.nN, sf_n _ _ _, _, _, rfl, _, rfl, _, _, rfl, ?_⟩
      refine ⟨_, rfl, q, _, dq, _, _, rfl, hq, T.clS, T.nI, sf_i _ _ _, _, rfl, _, _, rfl, rfl, ga_, ?_⟩
      refine ⟨_, rfl, q, _, dq, _, _, rfl, hq, T.clS, T.nN, sf_n _ _ _, _, rfl, _, _, rfl, rfl, gb_, ?_⟩
      refine ⟨_, rfl, q, _, dq, _, _, rfl, hq, T.clS, T.nO, sf_one _ _ _, _, rfl, _, _, rfl, rfl, gc_, ?_⟩
      refine ⟨_, _, _, rfl, fun r H2 s2 hr1 hr2 => ?_⟩
      have hp2 : H2 p = some (.ins (CP K) dx []) := s2 _ _ (s1 _ _ hp)
      have npr : r ≠ p := fun z => by
        rw [z, s1 _ _ hp] at hr1
        cases hr1
      refine ⟨_, rfl, p, _, dx, _, rfl, hp2, T.clP, T.nS, (by show 0 < 1000; decide), ?_⟩
      refine ⟨_, rfl, _, rfl, _, _, rfl, rfl, gd_, _, rfl, p, _, dx, _, rfl, upd_same, T.clP, T.nD, len1 _ _, ?_⟩
      obtain ⟨dr, hr3⟩ := hr2
      refine k r _ upd_same ⟨dr, by rw [upd_ne npr, upd_ne npr]; exact hr3⟩ (fun b o nb e => ?_)
      rw [upd_ne nb, upd_ne nb]
      exact s2 _ _ (s1 _ _ e)
theorem pe_P {X : Cx} {e : Expr} {es : List Expr} {t : TA} {p pos : Pos} {k : Nat} {E : L2.St → XK} (T : PlTx X.K X.mg) (M : MkP X.prog X.w X.K X.mg X.base) (hr : Room k X.A) (hx : ∀ σ, PassesAt (L2.CX X.prog X.w) X σ (E σ)) (ha : PA X (e :: es) t) (hk : 5 ≤ k := by decide) (hg : Gl X "Place" := by rfl)
    (he : starEach (e :: es) X.env = (false, eval e X.env) :: starEach es X.env := by rfl) (hpl : (backTo pos (starEach es X.env)).any (·.1) = false := by rfl) :
    PE X (.Call (.Name "Place" p) (e :: es) [] pos) (fun σ H Q => t σ H fun vs H1 => ∃ v d, vs = [v, .int d] ∧ rPlG X.K v d H1 Q (E σ)) := by
  obtain ⟨fd, F, hb⟩ := M
  refine ⟨fun pins s σ H Q I h => ?_⟩
  refine wpAny_Call_Name_kw (ld_glob I hg T.gP ?_ (by decide))
  refine PySem.W.callWith_K (h₀ := X.base) I.ok.mod.kin T.mkP.kp (thn (ha.run pos pins s σ H _ I h) fun us s1 ⟨vs, H1, I1, r, v, d, ev, a, b, c, hv, hbad, hok⟩ => ⟨I1.kIn, ?_⟩) he hpl
  subst ev
  refine make_at T.mkP F (hr.mono hk) hb (hx σ) I1 r fun x dx nx nd ne => ?_
  have s0 : Same H1 (upd (upd H1 dx (.own x)) x (.ins (CP X.K) dx [])) := Same.new _ (Same.new _ (Same.refl H1) nd) (by rw [upd_ne (Ne.symm ne)]; exact nx)
  refine ⟨x, dx, v, a, b, c, d, rfl, upd_same, hv.same s0, fun hd e H' s he => hbad hd e H' (s0.trans s) he, fun h1 => ⟨(hok h1).1, fun q H' hp hq kp => ⟨rfl, (hok h1).2 x H' (Same.made (Same.refl H1) nx nd kp) ⟨dx, q, hp, hq⟩⟩⟩⟩
/-- s // d -/
def OmX (P : Program) (w : World) (K : PySem.W.Frag) (mg : Str → Option Value) (base : Heap) (C : Addr) (k : Nat) (name : Str) (sp : Sp) : Prop :=
  ∃ (f : Addr) (fd : FuncData) (ps : List Str), FnOk P w K mg base (L2.CX P w) k f fd ps sp ∧ PySem.W.findIn K (.ref C) name = some (some (.ref f)) ∧ PySem.W.isFn K (.ref f) = true ∧ Binds K fd ps []
theorem scStraight__floordiv__ : FnScope ["self", "other"] ["self", "other"] (defScope iStraight__floordiv__) := ⟨rfl, rfl, rfl, by decide +kernel, rfl, by decide +kernel, by decide +kernel⟩
theorem om_Fdiv {fd : FuncData} (F : FnM K "Straight" "__floordiv__" "Straight.__floordiv__" iStraight__floordiv__ fd) (T : PlTx K mg) (MP : MkP P w K mg base) (hm : Meth K (CS K) "__floordiv__" (He.ma K (CS K) "__floordiv__")) (dIsInt : Dn P w K mg base 1 "is_integer" ["value"] (spIsInt K)) : OmX P w K mg base (CS K) 6 (dunder "floordiv") (spFdG K) := by
  refine ⟨_, fd, ["self", "other"], ?_, (by rw [show dunder "floordiv" = ("__floordiv__" : Str) by decide +kernel]; exact hm.at_), hm.fn, F.bindsN fun _ _ _ _ _ _ us hl => match us, hl with | [_, _], _ => rfl⟩
  refine F.ok scStraight__floordiv__ (fun vs H Q E h => ?_) (fun cdv A outer s H vs Q E hr h => ?_)
  · obtain ⟨p, a, b, c, d, rfl, _⟩ := h
    rfl
  · obtain ⟨p, a, b, c, d, rfl, hS, hbad, hok⟩ := h
    refine ⟨_, (pss_cons (ps_if (pt_not (pt_val (pe_dn dIsInt hr (pa_cons (pv 1) pa_nil)))) (pss_one ps_never) pss_nil)
      (pss_one (ps_ret (pe_P T MP hr (fun σ => passAt (takes_of rfl rfl rfl rfl) σ) (pa_cons (pv 0) (pa_cons (pv 1) pa_nil)))))), ?_⟩
    refine ⟨_, rfl, _, rfl, .inl ⟨d, rfl, _, rfl, iteF ?_⟩⟩
    exact ⟨_, rfl, _, rfl, _, d, rfl, a, b, c, .inl ⟨p, rfl, hS⟩, hbad, hok⟩
theorem pe_fdS {X : Cx} {K : PySem.W.Frag} {a b : Expr} {ta tb : TE} {pos : Pos} {k : Nat} {E : L2.St → XK} (O : OmX X.prog X.w K X.mg X.base (CS K) 6 (dunder "floordiv") (spFdG K)) (T : OpI K (CS K) "floordiv") (hr : Room k X.A) (hx : ∀ σ, PassesAt (L2.CX X.prog X.w) X σ (E σ)) (ha : PE X a ta) (hb : PE X b tb) (hk : 6 ≤ k := by decide) (hK : X.K = K := by rfl) :
    PE X (.BinOp a .FloorDiv b pos) (fun σ H Q => ta σ H fun x H1 => tb σ H1 fun y H2 => ∃ (p : Addr) (x' y' z' d : Int), x = .ref p ∧ y = .int d ∧ StrAt K H2 p x' y' z' ∧ (d < 1 → BadN K H2 "divisor" (.int d) (E σ)) ∧ (1 ≤ d → gg x' y' d < 1073741824 ∧ NewP K H2 x' y' z' d Q)) := by
  subst hK
  refine ⟨fun pins s σ H Q I h => ?_⟩
  refine wpAny_BinOp (binT ha hb I h fun v u s2 x y H2 I2 rx ry hh => ?_)
  obtain ⟨p, x', y', z', d, ex, ey, hS, q1, q2⟩ := hh
  obtain ⟨f, fd, ps, F, hs, hf, hbd⟩ := O
  have rr : Vals [x, y] [v, u] := .cons rx (.cons ry .nil)
  subst ex ey
  cases (show v = Value.ref p from rx)
  obtain ⟨t, rfl⟩ := (show ∃ t, u = Value.int d t from ry)
  obtain ⟨dx, hp⟩ := id hS
  obtain ⟨od, J⟩ := ins_at I2 hp
  obtain ⟨m, hF⟩ := I2.fr
  obtain ⟨rc, hrc, hpr⟩ := T.rr
  obtain ⟨fo, h1⟩ := T.i1
  obtain ⟨ro, h2⟩ := T.i2
  refine PySem.W.ksp_binT (op := .FloorDiv) hF I2.ok.mod.kin J rfl T.sf hs hf hrc hpr h1 h2 T.s1 ?_
  exact wpAny_mono (run_fnS (E := E) F (hr.mono hk) hbd (hx σ) I2 rr ⟨p, x', y', z', d, rfl, hS, q1, q2⟩) (fun u s' z => back_of z) fun _ _ z => z
theorem pe_fdT {X : Cx} {K : PySem.W.Frag} {a b : Expr} {ta tb : TE} {pos : Pos} {k : Nat} {W : WX} (tk : Takes X W) (hK : X.K = K) (O : OmX X.prog X.w K X.mg X.base (CS K) 6 (dunder "floordiv") (spFdG K)) (T : OpI K (CS K) "floordiv") (hr : Room k X.A) (ha : PE X a ta) (hb : PE X b tb) (hk : 6 ≤ k := by decide) :
    PE X (.BinOp a .FloorDiv b pos) (fun σ H Q => ta σ H fun x H1 => tb σ H1 fun y H2 => ∃ (p : Addr) (x' y' z' d : Int), x = .ref p ∧ y = .int d ∧ StrAt K H2 p x' y' z' ∧ (d < 1 → BadN K H2 "divisor" (.int d) (WE W σ)) ∧ (1 ≤ d → gg x' y' d < 1073741824 ∧ NewP K H2 x' y' z' d Q)) := pe_fdS O T hr (fun σ => passAt tk σ) ha hb hk hK
theorem pe_SfdT {X : Cx} {K : PySem.W.Frag} {e b : Expr} {es : List Expr} {t : TA} {tb : TE} {p pos pos2 : Pos} {k : Nat} {W : WX} (tk : Takes X W) (hK : X.K = K) (O : OmX X.prog X.w K X.mg X.base (CS K) 6 (dunder "floordiv") (spFdG K)) (T : OpI K (CS K) "floordiv") (S : StTx K X.mg) (M : MkS X.prog X.w K X.mg X.base) (hr : Room k X.A) (ha : PA X (e :: es) t) (hb : PE X b tb) (hk : 6 ≤ k := by decide) (hg : Gl X "Straight" := by rfl)
    (he : starEach (e :: es) X.env = (false, eval e X.env) :: starEach es X.env := by rfl) (hpl : (backTo pos2 (starEach es X.env)).any (·.1) = false := by rfl) :
    PE X (.BinOp (.Call (.Name "Straight" p) (e :: es) [] pos2) .FloorDiv b pos) (fun σ H Q => (t σ H fun vs H1 => ∃ a b c, vs = [.int a, .int b, .int c] ∧ NewS K H1 a b c fun x H1 => tb σ H1 fun y H2 => ∃ (p : Addr) (x' y' z' d : Int), x = .ref p ∧ y = .int d ∧ StrAt K H2 p x' y' z' ∧ (d < 1 → BadN K H2 "divisor" (.int d) (WE W σ)) ∧ (1 ≤ d → gg x' y' d < 1073741824 ∧ NewP K H2 x' y' z' d Q))) := by
  subst hK
  exact pe_fdT tk rfl O T hr (pe_S S M hr ha (Nat.le_trans (by decide) hk) hg he hpl) hb hk
theorem pe_SK {X : Cx} {K : PySem.W.Frag} {e : Expr} {es : List Expr} {t : TA} {p pos : Pos} {k : Nat} (hK : X.K = K) (T : StTx K X.mg) (M : MkS X.prog X.w K X.mg X.base) (hr : Room k X.A) (ha : PA X (e :: es) t) (hk : 2 ≤ k := by decide) (hg : Gl X "Straight" := by rfl)
    (he : starEach (e :: es) X.env = (false, eval e X.env) :: starEach es X.env := by rfl) (hpl : (backTo pos (starEach es X.env)).any (·.1) = false := by rfl) :
    PE X (.Call (.Name "Straight" p) (e :: es) [] pos) (fun σ H Q => t σ H fun vs H1 => ∃ a b c, vs = [.int a, .int b, .int c] ∧ NewS K H1 a b c Q) := by
  subst hK
  exact pe_S T M hr ha hk hg he hpl
theorem pe_PT {X : Cx} {K : PySem.W.Frag} {e : Expr} {es : List Expr} {t : TA} {p pos : Pos} {k : Nat} {W : WX} (tk : Takes X W) (hK : X.K = K) (T : PlTx K X.mg) (M : MkP X.prog X.w K X.mg X.base) (hr : Room k X.A) (ha : PA X (e :: es) t) (hk : 5 ≤ k := by decide) (hg : Gl X "Place" := by rfl)
    (he : starEach (e :: es) X.env = (false, eval e X.env) :: starEach es X.env := by rfl) (hpl : (backTo pos (starEach es X.env)).any (·.1) = false := by rfl) :
    PE X (.Call (.Name "Place" p) (e :: es) [] pos) (fun σ H Q => t σ H fun vs H1 => ∃ v d, vs = [v, .int d] ∧ rPlG K v d H1 Q (WE W σ)) := by
  subst hK
  exact pe_P T M hr (fun σ => passAt tk σ) ha hk hg he hpl
end
end K23

set_option maxHeartbeats 4000000
namespace K23
open PySem PySem.Spec PyProof.Rows L2 Z
/-! ### AtLeast -/
structure AtTx (K : PySem.W.Frag) (mg : Str → Option Value) : Prop extends StTx K mg where
  gA : mg "AtLeast" = some (.ref (CA K))
  clA : Cls K (CA K)
  mkA : Mk K (CA K) (He.ma K (CA K) "__init__")
  nAS : NoAttr K (CA K) "straight"
  gcd : mg "gcd" = some (.builtin "math.gcd")
section
variable {P : Program} {w : World} {K : PySem.W.Frag} {mg : Str → Option Value} {base : Heap}
/-- what may be called as AtLeast(v) -/
def MkA (P : Program) (w : World) (K : PySem.W.Frag) (mg : Str → Option Value) (base : Heap) : Prop := ∃ fd, FnOk P w K mg base CX0 4 (He.ma K (CA K) "__init__") fd ["self", "straight"] (spAI K) ∧ Binds K fd ["self", "straight"] []
theorem scAtLeast__init__ : FnScope ["self", "straight", "told", "common"] ["self", "straight"] (defScope iAtLeast__init__) := ⟨rfl, rfl, rfl, by decide +kernel, rfl, by decide +kernel, by decide +kernel⟩
theorem mk_A {fd : FuncData} (T : AtTx K mg) (M : MkS P w K mg base) (dLike : Dn P w K mg base 3 "straight_like" ["value"] (spLike K)) (F : FnM K "AtLeast" "__init__" "AtLeast.__init__" iAtLeast__init__ fd) : MkA P w K mg base := by
  refine ⟨fd, ?_, F.bindsN fun _ _ _ _ _ _ us hl => match us, hl with | [_, _], _ => rfl⟩
  refine F.ok scAtLeast__init__ (fun vs H Q E h => ?_) (fun cdv A outer s H vs Q E hr h => ?_)
  · obtain ⟨p, dx, v, a, b, c, rfl, _⟩ := h
    rfl
  · obtain ⟨p, dx, v, a, b, c, rfl, hp, hv, hg, k⟩ := h
    refine ⟨_, PSs.nox (pss_cons (ps_set (i := 2) scAtLeast__init__.nd rfl (Or.inl rfl) (pe_dn dLike hr (pa_cons (pv 1) pa_nil)))
      (pss_cons (ps_set (i := 3) scAtLeast__init__.nd rfl (Or.inl rfl) (pe_callBfun cr_gcd (by rfl) T.gcd (pa_cons (pe_fld (pv 2) rfl) (pa_cons (pe_fld (pv 2) rfl) pa_nil))))
      (pss_one (ps_if (pt_cmpR op_eq (pv 3) pe_int (nomark _)) (pss_one (ps_fld (pv 0) (pe_S T.toStTx M hr (pa_cons pe_int (pa_cons pe_int (pa_cons (pe_ifExp (pt_cmpR op_ge (pe_fld (pv 2) rfl) pe_int (nomark _)) pe_int (pe_un un_neg pe_int)) pa_nil)))) rfl)) (pss_one (ps_fld (pv 0) (pe_S T.toStTx M hr (pa_cons (pe_op op_fdivN (pe_fld (pv 2) rfl) (pv 3)) (pa_cons (pe_op op_fdivN (pe_fld (pv 2) rfl) (pv 3)) (pa_cons (pe_op op_fdivN (pe_fld (pv 2) rfl) (pv 3)) pa_nil)))) rfl)))))), ?_⟩
    refine ⟨_, rfl, v, a, b, c, rfl, hv, fun q H1 s1 hq => ?_⟩
    obtain ⟨dq, hq⟩ := hq
    refine ⟨_, rfl, q, _, dq, _, _, rfl, hq, T.clS, T.nI, sf_i _ _ _, _, rfl, q, _, dq, _, _, rfl, hq, T.clS, T.nN, sf_n _ _ _, _, _, rfl, ?_⟩
    have go : ∀ (x y z : Int), x = a.fdiv (g2 a b) → y = b.fdiv (g2 a b) → z = lf3 a b c → ∀ (r : Addr) (H2 : Hp), Same H1 H2 → H1 r = none → StrAt K H2 r x y z → Q .non (upd H2 p (.ins (CA K) dx (af r))) := by
      intro x y z ex ey ez r H2 s2 hr1 hr2
      subst ex ey ez
      have hp2 : H2 p = some (.ins (CA K) dx []) := s2 _ _ (s1 _ _ hp)
      have npr : r ≠ p := fun z => by
        rw [z, s1 _ _ hp] at hr1
        cases hr1
      obtain ⟨dr, hr3⟩ := hr2
      refine k r _ upd_same ⟨dr, by rw [upd_ne npr]; exact hr3⟩ (fun b o nb e => ?_)
      rw [upd_ne nb]
      exact s2 _ _ (s1 _ _ e)
    refine ⟨_, rfl, rfl, _, rfl, ite2 (fun h0 => ?_) (fun h0 => ?_)⟩
    · have z0 : g2 a b = 0 := by
        have z : ((g2 a b : Nat) : Int) = 0 := V.int.inj (of_decide_eq_true h0)
        omega
      obtain ⟨rfl, rfl⟩ := g2_zero z0
      refine ⟨_, rfl, q, _, dq, _, _, rfl, hq, T.clS, T.nO, sf_one _ _ _, _, _, rfl, rfl, ?_⟩
      refine ⟨_, rfl, ite2 (fun hc => ?_) (fun hc => ?_)⟩
      · have hc1 : 0 ≤ c := of_decide_eq_true hc
        refine ⟨0, 0, 0, rfl, fun r H2 s2 hr1 hr2 => ?_⟩
        refine ⟨_, rfl, p, _, dx, _, rfl, s2 _ _ (s1 _ _ hp), T.clA, T.nAS, (by show 0 < 1000; decide), ?_⟩
        exact go 0 0 0 (by rw [Int.zero_fdiv]) (by rw [Int.zero_fdiv]) (by unfold lf3; rw [if_pos z0, if_pos hc1]) r H2 s2 hr1 hr2
      · have hc1 : ¬ 0 ≤ c := fun z => hc (decide_eq_true z)
        refine ⟨_, rfl, 0, 0, -1, rfl, fun r H2 s2 hr1 hr2 => ?_⟩
        refine ⟨_, rfl, p, _, dx, _, rfl, s2 _ _ (s1 _ _ hp), T.clA, T.nAS, (by show 0 < 1000; decide), ?_⟩
        exact go 0 0 (-1) (by rw [Int.zero_fdiv]) (by rw [Int.zero_fdiv]) (by unfold lf3; rw [if_pos z0, if_neg hc1]) r H2 s2 hr1 hr2
    · have z0 : ¬ g2 a b = 0 := fun z => h0 (decide_eq_true (by
        show V.int ((g2 a b : Nat) : Int) = V.int 0
        rw [z]
        rfl))
      have hgc : ((g2 a b : Nat) : Int) ≠ 0 ∧ ((g2 a b : Nat) : Int).natAbs < 1073741824 := ⟨by omega, by omega⟩
      refine ⟨_, rfl, q, _, dq, _, _, rfl, hq, T.clS, T.nI, sf_i _ _ _, _, rfl, _, _, rfl, rfl, hgc, ?_⟩
      refine ⟨_, rfl, q, _, dq, _, _, rfl, hq, T.clS, T.nN, sf_n _ _ _, _, rfl, _, _, rfl, rfl, hgc, ?_⟩
      refine ⟨_, rfl, q, _, dq, _, _, rfl, hq, T.clS, T.nO, sf_one _ _ _, _, rfl, _, _, rfl, rfl, hgc, ?_⟩
      refine ⟨_, _, _, rfl, fun r H2 s2 hr1 hr2 => ?_⟩
      refine ⟨_, rfl, p, _, dx, _, rfl, s2 _ _ (s1 _ _ hp), T.clA, T.nAS, (by show 0 < 1000; decide), ?_⟩
      exact go _ _ _ rfl rfl (by unfold lf3; rw [if_neg z0]; rfl) r H2 s2 hr1 hr2
theorem pe_A {X : Cx} {e : Expr} {es : List Expr} {t : TA} {p pos : Pos} {k : Nat} (T : AtTx X.K X.mg) (M : MkA X.prog X.w X.K X.mg X.base) (hr : Room k X.A) (ha : PA X (e :: es) t) (hk : 5 ≤ k := by decide) (hg : Gl X "AtLeast" := by rfl)
    (he : starEach (e :: es) X.env = (false, eval e X.env) :: starEach es X.env := by rfl) (hpl : (backTo pos (starEach es X.env)).any (·.1) = false := by rfl) :
    PE X (.Call (.Name "AtLeast" p) (e :: es) [] pos) (fun σ H Q => t σ H fun vs H1 => ∃ v a b c, vs = [v] ∧ SumV X.K H1 v a b c ∧ g2 a b < 1073741824 ∧ NewA X.K H1 (a.fdiv (g2 a b)) (b.fdiv (g2 a b)) (lf3 a b c) Q) := by
  obtain ⟨fd, F, hb⟩ := M
  refine ⟨fun pins s σ H Q I h => ?_⟩
  refine wpAny_Call_Name_kw (ld_glob I hg T.gA ?_ (by decide))
  refine PySem.W.callWith_K (h₀ := X.base) I.ok.mod.kin T.mkA.kp (thn (ha.run pos pins s σ H _ I h) fun us s1 ⟨vs, H1, I1, r, v, a, b, c, ev, hv, hg2, q⟩ => ⟨I1.kIn, ?_⟩) he hpl
  subst ev
  refine run_make T.mkA F (hr.mono hk) hb .nil pass0 I1 r fun x dx nx nd ne => ?_
  have s0 : Same H1 (upd (upd H1 dx (.own x)) x (.ins (CA X.K) dx [])) := Same.new _ (Same.new _ (Same.refl H1) nd) (by rw [upd_ne (Ne.symm ne)]; exact nx)
  exact ⟨x, dx, v, a, b, c, rfl, upd_same, hv.same s0, hg2, fun q' H' hp hq kp => ⟨rfl, q x H' (Same.made (Same.refl H1) nx nd kp) ⟨dx, q', hp, hq⟩⟩⟩
theorem pe_AK {X : Cx} {K : PySem.W.Frag} {e : Expr} {es : List Expr} {t : TA} {p pos : Pos} {k : Nat} (hK : X.K = K) (T : AtTx K X.mg) (M : MkA X.prog X.w K X.mg X.base) (hr : Room k X.A) (ha : PA X (e :: es) t) (hk : 5 ≤ k := by decide) (hg : Gl X "AtLeast" := by rfl)
    (he : starEach (e :: es) X.env = (false, eval e X.env) :: starEach es X.env := by rfl) (hpl : (backTo pos (starEach es X.env)).any (·.1) = false := by rfl) :
    PE X (.Call (.Name "AtLeast" p) (e :: es) [] pos) (fun σ H Q => t σ H fun vs H1 => ∃ v a b c, vs = [v] ∧ SumV K H1 v a b c ∧ g2 a b < 1073741824 ∧ NewA K H1 (a.fdiv (g2 a b)) (b.fdiv (g2 a b)) (lf3 a b c) Q) := by
  subst hK
  exact pe_A T M hr ha hk hg he hpl
end
end K23

set_option maxHeartbeats 4000000
namespace K23
open PySem PySem.Spec PyProof.Rows L2 Z
/-! ### checks -/
abbrev CRd (K : PySem.W.Frag) : Addr := He.ga K "Read"
abbrev CSt (K : PySem.W.Frag) : Addr := He.ga K "Statement"
abbrev CL (K : PySem.W.Frag) : Addr := He.ga K "Loop"
abbrev CPr (K : PySem.W.Frag) : Addr := He.ga K "Program"
structure PrTx (K : PySem.W.Frag) (mg : Str → Option Value) : Prop extends AtTx K mg where
  plc : PlTx K mg
  clR : Cls K (CRd K)
  nRA : NoAttr K (CRd K) "array"
  nRP : NoAttr K (CRd K) "place"
  nRF : NoAttr K (CRd K) "factor"
  clM : Cls K (CSt K)
  nMA : NoAttr K (CSt K) "array"
  nMC : NoAttr K (CSt K) "cell"
  nMK : NoAttr K (CSt K) "constant"
  nMR : NoAttr K (CSt K) "reads"
  nMG : NoAttr K (CSt K) "conditions"
  clL : Cls K (CL K)
  nLo : NoAttr K (CL K) "low"
  nHi : NoAttr K (CL K) "high"
  nSt : NoAttr K (CL K) "statements"
  nSp : NoAttr K (CL K) "step"
  nDn : NoAttr K (CL K) "down"
  clP : Cls K (CPr K)
  nPL : NoAttr K (CPr K) "loops"
  nPA : NoAttr K (CPr K) "arrays"
  nPK : NoAttr K (CPr K) "known"
  con : ∀ q ∈ ([("TOP_PART", 12), ("TOP_ONE", 999), ("TOP_RANGE_PART", 3), ("TOP_DIVISOR", 3), ("TOP_STEP", 16), ("MOST_LOOPS", 6), ("MOST_STATEMENTS", 16), ("MOST_READS", 3), ("MOST_CONDITIONS", 3)] : List (Str × Int)), ∃ t, mg q.1 = some (.int q.2 t)
  gKW : mg "KEPT_WORDS" = some (.ref (He.ga K "KEPT_WORDS"))
  tKW : ∀ H : Hp, SqT K H (He.ga K "KEPT_WORDS") (kept.map V.str)
  gLe : ∃ t, mg "LETTERS" = some (.str lets t)
  len : mg "len" = none
  tuple : mg "tuple" = none
  all : mg "all" = none
  str : mg "str" = none
  set : mg "set" = none
  sorted : mg "sorted" = none
def spCkN (K : PySem.W.Frag) : Sp := fun vs H Q E => ∃ (w : Str) (v lo hi : Int), vs = [.str w, .int v, .int lo, .int hi] ∧ Out (ckN w v lo hi) (Rz K H E) (Q .non H)
def spCkM (K : PySem.W.Frag) : Sp := fun vs H Q E => ∃ (w : Str) (l : Addr) (m : Int) (xs : List V), vs = [.str w, .ref l, .int m] ∧ SqA K H l xs ∧ Out (ckM w xs.length m) (Rz K H E) (Q .non H)
def spIsName : Sp := fun vs H Q _ => ∃ x : Str, vs = [.str x] ∧ x.length ≤ 1000 ∧ ∀ H', Same H H' → Q (.bl (isName x)) H'
def spCkA (K : PySem.W.Frag) : Sp := fun vs H Q E => ∃ x : Str, vs = [.str x] ∧ x.length ≤ 1000 ∧ Out (ckA x) (Rz K H E) (∀ H', Same H H' → Q .non H')
def spCkS (K : PySem.W.Frag) : Sp := fun vs H Q E => ∃ (q : Addr) (a b c : Int), vs = [.ref q] ∧ StrAt K H q a b c ∧ Out (ckS a b c) (Rz K H E) (Q .non H)
def spCkP (K : PySem.W.Frag) : Sp := fun vs H Q E => ∃ (q : Addr) (a b c d : Int), vs = [.ref q] ∧ PlcAt K H q a b c d ∧ Out (ckP a b c d) (Rz K H E) (Q .non H)
def spCkR (K : PySem.W.Frag) : Sp := fun vs H Q E => ∃ (q : Addr) (a b c d : Int), vs = [.ref q] ∧ PlcAt K H q a b c d ∧ Out (ckR a b c d) (Rz K H E) (Q .non H)
/-- a place, or a sum or an int in its place -/
def PlV (K : PySem.W.Frag) (H : Hp) (v : V) (a b c d : Int) : Prop := (∃ q, v = .ref q ∧ PlcAt K H q a b c d) ∨ (SumV K H v a b c ∧ d = 1)
theorem PlV.same {K : PySem.W.Frag} {H H' : Hp} {v : V} {a b c d : Int} (h : PlV K H v a b c d) (s : Same H H') : PlV K H' v a b c d := by
  rcases h with ⟨q, e, h⟩ | ⟨h, e⟩
  · exact .inl ⟨q, e, h.same s⟩
  · exact .inr ⟨h.same s, e⟩
def spPLike (K : PySem.W.Frag) : Sp := fun vs H Q _ => ∃ (v : V) (a b c d : Int), vs = [v] ∧ PlV K H v a b c d ∧ ∀ q H', Same H H' → PlcAt K H' q a b c d → Q (.ref q) H'
abbrev FnP0 := @FnP
section
variable {P : Program} {w : World} {K : PySem.W.Frag} {mg : Str → Option Value} {base : Heap}
theorem sc_check_number : FnScope ["what", "number", "low", "high"] ["what", "number", "low", "high"] (defScope s_check_number) := ⟨rfl, rfl, rfl, by decide +kernel, rfl, by decide +kernel, by decide +kernel⟩
theorem ok_ckN {f : Addr} {fd : FuncData} (F : FnP K "check_number" s_check_number f fd) (MB : Mx P w K mg base "BadNumber" ["self", "what", "number"] ["what", "number"]) : FnOk P w K mg base (L2.CX P w) 3 f fd ["what", "number", "low", "high"] (spCkN K) := by
  refine F.ok sc_check_number (fun vs H Q E h => ?_) (fun cdv A outer s H vs Q E hr h => ?_)
  · obtain ⟨w, v, lo, hi, rfl, _⟩ := h
    rfl
  · obtain ⟨w, v, lo, hi, rfl, k⟩ := h
    refine ⟨_, (pss_one (ps_if (pt_not (pt_chain op_le op_le (pv 2) (pv 1) (pv 3))) (pss_one (ps_raise rfl (takes_of rfl rfl rfl rfl) (pmk_err MB hr (pa_cons (pv 0) (pa_cons (pv 1) pa_nil))))) pss_nil)), ?_⟩
    have bad : ¬ (lo ≤ v ∧ v ≤ hi) → Rz K H E (.num w v) := fun z => k.1 _ (if_neg z)
    have rs : ∀ z : ¬ (lo ≤ v ∧ v ≤ hi), _ := fun z => err_go (K := K) (x := "BadNumber") (fs := ["what", "number"]) (vs := [.str w, .int v]) (H1 := H) (Q := E) (by show 2 ≤ 1000; decide) rfl fun d H' s hd => bad z d H' s hd
    refine ⟨_, rfl, _, rfl, _, _, rfl, rfl, _, rfl, ?_⟩
    by_cases h1 : lo ≤ v
    · rw [decide_eq_true h1]
      refine iteT ⟨_, rfl, _, _, rfl, rfl, _, rfl, ?_⟩
      by_cases h2 : v ≤ hi
      · rw [decide_eq_true h2]
        exact iteF (k.2 (if_pos ⟨h1, h2⟩))
      · rw [decide_eq_false h2]
        exact iteT ⟨_, rfl, _, rfl, rs fun z => h2 z.2⟩
    · rw [decide_eq_false h1]
      exact iteF ⟨_, rfl, iteT ⟨_, rfl, _, rfl, rs fun z => h1 z.1⟩⟩
end
end K23

set_option maxHeartbeats 4000000
namespace K23
open PySem PySem.Spec PyProof.Rows L2 Z
theorem if_no {b : Bool} {A B : Prop} (h : b = false) (k : B) : if b = true then A else B := by
  rw [h]
  exact k
theorem if_yes {b : Bool} {A B : Prop} (h : b = true) (k : A) : if b = true then A else B := by
  rw [h]
  exact k
theorem inv_strs (x : Str) (ys : List Str) : inV (.str x) (ys.map V.str) = decide (x ∈ ys) := by
  unfold inV
  induction ys with
  | nil => simp
  | cons y ys ih =>
    rw [List.map_cons, List.any_cons, ih]
    by_cases h : y = x
    · subst h
      simp [eqV]
    · have h2 : ¬ x = y := fun z => h z.symm
      simp [eqV, h, h2]
theorem flat_strs (ys : List Str) : (ys.map V.str).all flatV = true := by
  induction ys with
  | nil => rfl
  | cons y ys ih => simp [flatV] at ih ⊢
theorem kss {K : PySem.W.Frag} : PySem.W.kitOne K (.type "str") (.type "str") = some true := kit_ty (by decide +kernel)
theorem sz1000 : 1000 ≤ sizeLine := by show 1000 ≤ sizeLine; decide
theorem yes_of {σ : L2.St} {H : Hp} {A B : Hp → Prop} (h : A H) : tYes σ H (fun b H3 => if b = true then A H3 else B H3) := by
  show if true = true then A H else B H
  rw [if_pos rfl]
  exact h
theorem all_take (p : Nat → Bool) (l : List Nat) : (l.map p).all id = l.all p := by
  induction l with
  | nil => rfl
  | cons x l ih => simp [ih]
theorem RzK.of {K : PySem.W.Frag} {H H1 : Hp} {E : XK} {e : Er} {p : Addr} (h : RzK K p H E e) (k : Keep p H H1) : Rz K H1 E e := h.rz k
section
variable {P : Program} {w : World} {K : PySem.W.Frag} {mg : Str → Option Value} {base : Heap}
theorem sc_check_many : FnScope ["what", "things", "most"] ["what", "things", "most"] (defScope s_check_many) := ⟨rfl, rfl, rfl, by decide +kernel, rfl, by decide +kernel, by decide +kernel⟩
theorem ok_ckM {f : Addr} {fd : FuncData} (F : FnP K "check_many" s_check_many f fd) (T : PrTx K mg) (MT : Mx P w K mg base "TooMany" ["self", "what", "many", "limit"] ["what", "many", "limit"]) : FnOk P w K mg base (L2.CX P w) 3 f fd ["what", "things", "most"] (spCkM K) := by
  refine F.ok sc_check_many (fun vs H Q E h => ?_) (fun cdv A outer s H vs Q E hr h => ?_)
  · obtain ⟨w, l, m, xs, rfl, _⟩ := h
    rfl
  · obtain ⟨w, l, m, xs, rfl, hs, k⟩ := h
    refine ⟨_, (pss_one (ps_if (pt_cmpR op_gt (pe_callB call_len_seq (by rfl) T.len PySem.boot_len (pa_cons (pv 1) pa_nil)) (pv 2) (nomark _)) (pss_one (ps_raise rfl (takes_of rfl rfl rfl rfl) (pmk_err MT hr (pa_cons (pv 0) (pa_cons (pe_callB call_len_seq (by rfl) T.len PySem.boot_len (pa_cons (pv 1) pa_nil)) (pa_cons (pv 2) pa_nil)))))) pss_nil)), ?_⟩
    refine ⟨_, rfl, l, xs, rfl, hs, _, rfl, _, _, rfl, rfl, _, rfl, ?_⟩
    by_cases h1 : (xs.length : Int) ≤ m
    · rw [decide_eq_false (by omega)]
      exact iteF (k.2 (if_pos h1))
    · rw [decide_eq_true (by omega)]
      have bad := k.1 _ (if_neg h1)
      exact iteT ⟨_, rfl, _, rfl, l, xs, rfl, hs, _, rfl, err_go (K := K) (x := "TooMany") (fs := ["what", "many", "limit"]) (by show 3 ≤ 1000; decide) rfl fun d H' s hd => bad d H' s hd⟩
theorem sc_is_array_name : FnScope ["value", "letter"] ["value"] (defScope s_is_array_name) := ⟨rfl, rfl, rfl, by decide +kernel, rfl, by decide +kernel, by decide +kernel⟩
theorem ok_isName {f : Addr} {fd : FuncData} (F : FnP K "is_array_name" s_is_array_name f fd) (T : PrTx K mg) : FnOk P w K mg base CX0 1 f fd ["value"] spIsName := by
  refine F.ok sc_is_array_name (fun vs H Q E h => ?_) (fun cdv A outer s H vs Q E hr h => ?_)
  · obtain ⟨x, rfl, _⟩ := h
    rfl
  · obtain ⟨x, rfl, hx, k⟩ := h
    obtain ⟨tLe, hLe⟩ := T.gLe
    refine ⟨_, PSs.nox (pss_cons (ps_if (PW.pt (pw_or (pt_not (pt_val (pe_callB call_isi (by rfl) T.isi (by decide +kernel) (pa_cons (pv 0) (pa_cons (pe_bltn (v := .ty "str") (by rfl) T.str (by decide +kernel) rfl) pa_nil))))) (pw_or1 (pt_not (pt_chain op_le op_le pe_int (pe_callB call_len_str (by rfl) T.len PySem.boot_len (pa_cons (pv 0) pa_nil)) pe_int))))) (pss_one (ps_ret pe_bl)) pss_nil)
      (pss_one (ps_ret (pe_and (pe_callB (cr_all rfl) (by rfl) T.all (by decide +kernel) (pa_cons (pe_lc (own := [("letter", 1)]) (g := gName 1) (tt := tYes) rfl sc_is_array_name.nd (pi_str (pv 0)) (blkOk_by (N := ["value", "letter"]) (sc := defScope s_is_array_name) (by decide +kernel)) (fun _ _ _ _ _ => (pg_name (i := 1) sc_is_array_name.nd rfl (.inl rfl))) (fun _ _ _ _ _ => pts_nil) (fun _ _ _ _ _ => (pe_cmpR op_in_sign (pv 1) (pe_glob (v := .str lets) rfl hLe ⟨tLe, rfl⟩) rfl))) pa_nil)) (pe_one (pe_cmpR op_notIn_seq (pv 0) (pe_glob (v := .ref (He.ga K "KEPT_WORDS")) rfl T.gKW rfl) (by with_unfolding_all rfl))))))), ?_⟩
    have hz : x.length ≤ sizeLine := Nat.le_trans hx sz1000
    refine ⟨_, rfl, _, _, _, _, _, rfl, .ty _, .base (.str x), kss, _, rfl, ?_⟩
    refine if_no rfl ?_
    refine ⟨_, rfl, _, rfl, hz, _, _, rfl, rfl, _, rfl, ?_⟩
    have no : ¬ (1 ≤ x.length ∧ x.length ≤ 8) → Q (.bl false) H := fun z => by
      have q := k H (Same.refl H)
      unfold isName at q
      rw [decide_eq_false z] at q
      exact q
    by_cases h1 : (1 : Int) ≤ (x.length : Int)
    · rw [decide_eq_true h1]
      refine iteT ⟨_, _, rfl, rfl, _, rfl, ?_⟩
      by_cases h2 : (x.length : Int) ≤ 8
      · rw [decide_eq_true h2]
        refine if_no rfl ?_
        refine ⟨_, rfl, x, rfl, fun D hD => ?_⟩
        refine lc_str (fun i Hc => Hc D = some (.lst ((((x.cps.toList.take i).map fun c => decide (c ∈ lets.cps.toList))).map V.bl)) ∧ ∀ b o, H b = some o → Hc b = some o) ⟨upd_same, Same.new _ (Same.refl H) hD⟩ ?_ ?_
        · rintro i c Hc hc ⟨hc1, hc2⟩
          refine ⟨rfl, yes_of ?_⟩
          refine ⟨_, rfl, c, lets, rfl, rfl, ?_⟩
          have hi : i < x.cps.toList.length := by
            rw [Array.length_toList]
            exact (Array.getElem?_eq_some_iff.mp hc).1
          have ci : x.cps.toList[i]? = some c := by
            rw [Array.getElem?_toList]
            exact hc
          refine ⟨_, hc1, ?_, ?_, fun b o e => ?_⟩
          · rw [List.length_map, List.length_map, List.length_take]
            have : x.cps.toList.length = x.length := Array.length_toList
            have := sz1000
            omega
          · rw [upd_same, List.take_add_one, ci]
            simp
          · rw [upd_ne (ne_of_none e hD)]
            exact hc2 b o e
        · rintro Hc ⟨hc1, hc2⟩
          rw [show x.cps.size = x.cps.toList.length from Array.length_toList.symm, List.take_length] at hc1
          refine ⟨D, _, rfl, SqL.of hc1, ?_⟩
          have e1 : (x.cps.toList.map fun c => decide (c ∈ lets.cps.toList)).all id = x.cps.toList.all fun c => decide (c ∈ lets.cps.toList) := all_take _ _
          rw [e1]
          have q := k Hc hc2
          unfold isName at q
          rw [decide_eq_true (show 1 ≤ x.length ∧ x.length ≤ 8 by omega), Bool.true_and] at q
          cases ha : x.cps.toList.all fun c => decide (c ∈ lets.cps.toList) with
          | false =>
            rw [ha] at q
            exact ⟨_, rfl, if_no rfl q⟩
          | true =>
            rw [ha, Bool.true_and] at q
            refine ⟨_, rfl, if_yes rfl ?_⟩
            refine ⟨_, rfl, _, _, rfl, .inr (T.tKW Hc), rfl, flat_strs kept, ?_⟩
            rw [inv_strs]
            show Q (.bl (!decide (x ∈ kept))) Hc
            rw [← decide_not]
            exact q
      · rw [decide_eq_false h2]
        exact if_yes rfl (no (by omega))
    · rw [decide_eq_false h1]
      exact iteF ⟨_, rfl, if_yes rfl (no (by omega))⟩
theorem sc_check_name : FnScope ["array"] ["array"] (defScope s_check_name) := ⟨rfl, rfl, rfl, by decide +kernel, rfl, by decide +kernel, by decide +kernel⟩
theorem ok_ckA {f : Addr} {fd : FuncData} (F : FnP K "check_name" s_check_name f fd) (MN : Mx P w K mg base "BadName" ["self", "name"] ["name"]) (dIsName : Dn P w K mg base 1 "is_array_name" ["value"] spIsName) : FnOk P w K mg base (L2.CX P w) 3 f fd ["array"] (spCkA K) := by
  refine F.ok sc_check_name (fun vs H Q E h => ?_) (fun cdv A outer s H vs Q E hr h => ?_)
  · obtain ⟨x, rfl, _⟩ := h
    rfl
  · obtain ⟨x, rfl, hx, k⟩ := h
    refine ⟨_, (pss_one (ps_if (pt_not (pt_val (pe_dn dIsName hr (pa_cons (pv 0) pa_nil)))) (pss_one (ps_raise rfl (takes_of rfl rfl rfl rfl) (pmk_err MN hr (pa_cons (pv 0) pa_nil)))) pss_nil)), ?_⟩
    refine ⟨_, rfl, x, rfl, hx, fun H1 s1 => ⟨_, rfl, ?_⟩⟩
    cases e : isName x with
    | true => exact if_no rfl (k.2 (if_pos e) H1 s1)
    | false =>
      have bad := (k.1 (.name x) (if_neg (by rw [e]; simp))).same s1
      exact if_yes rfl ⟨_, rfl, err_go (K := K) (x := "BadName") (fs := ["name"]) (by show 1 ≤ 1000; decide) rfl fun d H' s hd => bad d H' s hd⟩
theorem sc_check_sum : FnScope ["straight"] ["straight"] (defScope s_check_sum) := ⟨rfl, rfl, rfl, by decide +kernel, rfl, by decide +kernel, by decide +kernel⟩
theorem ok_ckS {f : Addr} {fd : FuncData} (F : FnP K "check_sum" s_check_sum f fd) (T : PrTx K mg) (dCkN : Dx P w K mg base 3 "check_number" ["what", "number", "low", "high"] (spCkN K)) : FnOk P w K mg base (L2.CX P w) 4 f fd ["straight"] (spCkS K) := by
  refine F.ok sc_check_sum (fun vs H Q E h => ?_) (fun cdv A outer s H vs Q E hr h => ?_)
  · obtain ⟨q, a, b, c, rfl, _⟩ := h
    rfl
  · obtain ⟨q, a, b, c, rfl, ⟨dx, hq⟩, k⟩ := h
    obtain ⟨tTOP_PART, hTOP_PART⟩ := T.con ("TOP_PART", 12) (by simp)
    obtain ⟨tTOP_ONE, hTOP_ONE⟩ := T.con ("TOP_ONE", 999) (by simp)
    refine ⟨_, (pss_cons (ps_expr (pe_dx (K := K) dCkN rfl hr (fun σ => passAt (takes_of rfl rfl rfl rfl) σ) (pa_cons pe_str (pa_cons (pe_fld (pv 0) rfl) (pa_cons (pe_un un_neg (pe_glob (v := .int 12) rfl hTOP_PART ⟨tTOP_PART, rfl⟩)) (pa_cons (pe_glob (v := .int 12) rfl hTOP_PART ⟨tTOP_PART, rfl⟩) pa_nil))))))
      (pss_cons (ps_expr (pe_dx (K := K) dCkN rfl hr (fun σ => passAt (takes_of rfl rfl rfl rfl) σ) (pa_cons pe_str (pa_cons (pe_fld (pv 0) rfl) (pa_cons (pe_un un_neg (pe_glob (v := .int 12) rfl hTOP_PART ⟨tTOP_PART, rfl⟩)) (pa_cons (pe_glob (v := .int 12) rfl hTOP_PART ⟨tTOP_PART, rfl⟩) pa_nil))))))
      (pss_one (ps_expr (pe_dx (K := K) dCkN rfl hr (fun σ => passAt (takes_of rfl rfl rfl rfl) σ) (pa_cons pe_str (pa_cons (pe_fld (pv 0) rfl) (pa_cons (pe_un un_neg (pe_glob (v := .int 999) rfl hTOP_ONE ⟨tTOP_ONE, rfl⟩)) (pa_cons (pe_glob (v := .int 999) rfl hTOP_ONE ⟨tTOP_ONE, rfl⟩) pa_nil))))))))), ?_⟩
    refine ⟨_, rfl, q, _, dx, _, _, rfl, hq, T.clS, T.nI, sf_i _ _ _, _, rfl, _, _, _, _, rfl, k.or (fun _ z => z) fun k => ?_⟩
    refine ⟨_, rfl, q, _, dx, _, _, rfl, hq, T.clS, T.nN, sf_n _ _ _, _, rfl, _, _, _, _, rfl, k.or (fun _ z => z) fun k => ?_⟩
    exact ⟨_, rfl, q, _, dx, _, _, rfl, hq, T.clS, T.nO, sf_one _ _ _, _, rfl, _, _, _, _, rfl, k⟩
theorem sc_check_place : FnScope ["place"] ["place"] (defScope s_check_place) := ⟨rfl, rfl, rfl, by decide +kernel, rfl, by decide +kernel, by decide +kernel⟩
theorem ok_ckP {f : Addr} {fd : FuncData} (F : FnP K "check_place" s_check_place f fd) (T : PrTx K mg) (dCkN : Dx P w K mg base 3 "check_number" ["what", "number", "low", "high"] (spCkN K)) (dCkS : Dx P w K mg base 4 "check_sum" ["straight"] (spCkS K)) : FnOk P w K mg base (L2.CX P w) 5 f fd ["place"] (spCkP K) := by
  refine F.ok sc_check_place (fun vs H Q E h => ?_) (fun cdv A outer s H vs Q E hr h => ?_)
  · obtain ⟨q, a, b, c, d, rfl, _⟩ := h
    rfl
  · obtain ⟨q, a, b, c, d, rfl, ⟨dx, r, hq, hr1⟩, k⟩ := h
    obtain ⟨tTOP_DIVISOR, hTOP_DIVISOR⟩ := T.con ("TOP_DIVISOR", 3) (by simp)
    refine ⟨_, (pss_cons (ps_expr (pe_dx (K := K) dCkS rfl hr (fun σ => passAt (takes_of rfl rfl rfl rfl) σ) (pa_cons (pe_fld (pv 0) rfl) pa_nil)))
      (pss_one (ps_expr (pe_dx (K := K) dCkN rfl hr (fun σ => passAt (takes_of rfl rfl rfl rfl) σ) (pa_cons pe_str (pa_cons (pe_fld (pv 0) rfl) (pa_cons pe_int (pa_cons (pe_glob (v := .int 3) rfl hTOP_DIVISOR ⟨tTOP_DIVISOR, rfl⟩) pa_nil)))))))), ?_⟩
    refine ⟨_, rfl, q, _, dx, _, _, rfl, hq, T.plc.clP, T.plc.nS, pf_s _ _, r, a, b, c, rfl, hr1, k.or (fun _ z => z) fun k => ?_⟩
    exact ⟨_, rfl, q, _, dx, _, _, rfl, hq, T.plc.clP, T.plc.nD, pf_d _ _, _, _, _, _, rfl, k⟩
theorem sc_check_range_place : FnScope ["place"] ["place"] (defScope s_check_range_place) := ⟨rfl, rfl, rfl, by decide +kernel, rfl, by decide +kernel, by decide +kernel⟩
theorem ok_ckR {f : Addr} {fd : FuncData} (F : FnP K "check_range_place" s_check_range_place f fd) (T : PrTx K mg) (dCkN : Dx P w K mg base 3 "check_number" ["what", "number", "low", "high"] (spCkN K)) : FnOk P w K mg base (L2.CX P w) 4 f fd ["place"] (spCkR K) := by
  refine F.ok sc_check_range_place (fun vs H Q E h => ?_) (fun cdv A outer s H vs Q E hr h => ?_)
  · obtain ⟨q, a, b, c, d, rfl, _⟩ := h
    rfl
  · obtain ⟨q, a, b, c, d, rfl, ⟨dx, r, hp, dq, hq⟩, k⟩ := h
    obtain ⟨tTOP_ONE, hTOP_ONE⟩ := T.con ("TOP_ONE", 999) (by simp)
    obtain ⟨tTOP_RANGE_PART, hTOP_RANGE_PART⟩ := T.con ("TOP_RANGE_PART", 3) (by simp)
    obtain ⟨tTOP_DIVISOR, hTOP_DIVISOR⟩ := T.con ("TOP_DIVISOR", 3) (by simp)
    refine ⟨_, (pss_cons (ps_expr (pe_dx (K := K) dCkN rfl hr (fun σ => passAt (takes_of rfl rfl rfl rfl) σ) (pa_cons pe_str (pa_cons (pe_fld (pe_fld (pv 0) rfl) rfl) (pa_cons pe_int (pa_cons pe_int pa_nil))))))
      (pss_cons (ps_expr (pe_dx (K := K) dCkN rfl hr (fun σ => passAt (takes_of rfl rfl rfl rfl) σ) (pa_cons pe_str (pa_cons (pe_fld (pe_fld (pv 0) rfl) rfl) (pa_cons pe_int (pa_cons (pe_glob (v := .int 3) rfl hTOP_RANGE_PART ⟨tTOP_RANGE_PART, rfl⟩) pa_nil))))))
      (pss_cons (ps_expr (pe_dx (K := K) dCkN rfl hr (fun σ => passAt (takes_of rfl rfl rfl rfl) σ) (pa_cons pe_str (pa_cons (pe_fld (pe_fld (pv 0) rfl) rfl) (pa_cons (pe_un un_neg (pe_glob (v := .int 999) rfl hTOP_ONE ⟨tTOP_ONE, rfl⟩)) (pa_cons (pe_glob (v := .int 999) rfl hTOP_ONE ⟨tTOP_ONE, rfl⟩) pa_nil))))))
      (pss_one (ps_expr (pe_dx (K := K) dCkN rfl hr (fun σ => passAt (takes_of rfl rfl rfl rfl) σ) (pa_cons pe_str (pa_cons (pe_fld (pv 0) rfl) (pa_cons pe_int (pa_cons (pe_glob (v := .int 3) rfl hTOP_DIVISOR ⟨tTOP_DIVISOR, rfl⟩) pa_nil)))))))))), ?_⟩
    refine ⟨_, rfl, q, _, dx, _, _, rfl, hp, T.plc.clP, T.plc.nS, pf_s _ _, r, _, dq, _, _, rfl, hq, T.clS, T.nI, sf_i _ _ _, _, _, _, _, rfl, k.or (fun _ z => z) fun k => ?_⟩
    refine ⟨_, rfl, q, _, dx, _, _, rfl, hp, T.plc.clP, T.plc.nS, pf_s _ _, r, _, dq, _, _, rfl, hq, T.clS, T.nN, sf_n _ _ _, _, _, _, _, rfl, k.or (fun _ z => z) fun k => ?_⟩
    refine ⟨_, rfl, q, _, dx, _, _, rfl, hp, T.plc.clP, T.plc.nS, pf_s _ _, r, _, dq, _, _, rfl, hq, T.clS, T.nO, sf_one _ _ _, _, rfl, _, _, _, _, rfl, k.or (fun _ z => z) fun k => ?_⟩
    exact ⟨_, rfl, q, _, dx, _, _, rfl, hp, T.plc.clP, T.plc.nD, pf_d _ _, _, _, _, _, rfl, k⟩
theorem sc_place_like : FnScope ["value"] ["value"] (defScope s_place_like) := ⟨rfl, rfl, rfl, by decide +kernel, rfl, by decide +kernel, by decide +kernel⟩
theorem ok_pLike {f : Addr} {fd : FuncData} (F : FnP K "place_like" s_place_like f fd) (T : PrTx K mg) (MP : MkP P w K mg base) : FnOk P w K mg base CX0 6 f fd ["value"] (spPLike K) := by
  refine F.ok sc_place_like (fun vs H Q E h => ?_) (fun cdv A outer s H vs Q E hr h => ?_)
  · obtain ⟨v, a, b, c, d, rfl, _⟩ := h
    rfl
  · obtain ⟨v, a, b, c, d, rfl, h, k⟩ := h
    refine ⟨_, PSs.nox (pss_one (ps_ret (pe_ifExp (pt_val (pe_callB call_isi (by rfl) T.isi (by decide +kernel) (pa_cons (pv 0) (pa_cons (pe_glob (v := .ref (CP K)) rfl T.plc.gP rfl) pa_nil)))) (pv 0) (pe_P T.plc MP hr at_E0 (pa_cons (pv 0) (pa_cons pe_int pa_nil)))))), ?_⟩
    have g1 : gg a b 1 = 1 := Nat.gcd_one_right _
    have go : ∀ q H', Same H H' → PlcAt K H' q (a.fdiv (gg a b 1)) (b.fdiv (gg a b 1)) (c.fdiv (gg a b 1)) ((1 : Int).fdiv (gg a b 1)) → d = 1 → Q (.ref q) H' := fun q H' s hq e => by
      rw [g1] at hq
      subst e
      have e1 : ((1 : Nat) : Int) = 1 := rfl
      rw [e1, Int.fdiv_one, Int.fdiv_one, Int.fdiv_one, Int.fdiv_one] at hq
      exact k q H' s hq
    rcases h with ⟨q, rfl, hq⟩ | ⟨hv, hd⟩
    · refine ⟨_, rfl, _, _, _, _, _, rfl, .own _, .base (T.plc.pty hq), T.plc.kPP, _, rfl, iteT ?_⟩
      exact ⟨_, rfl, k q H (Same.refl H) hq⟩
    · have fin : rPlG K v 1 H (fun y H' => Q y H') E0 := ⟨a, b, c, hv, fun z => absurd z (by decide), fun _ => ⟨by rw [g1]; decide, fun q H' s hq => go q H' s hq hd⟩⟩
      rcases id hv with ⟨q, rfl, hq⟩ | ⟨rfl, _, _⟩
      · refine ⟨_, rfl, _, _, _, _, _, rfl, .own _, .base (T.ty hq), T.plc.kSP, _, rfl, iteF ?_⟩
        exact ⟨_, rfl, _, 1, rfl, fin⟩
      · refine ⟨_, rfl, _, _, _, _, _, rfl, .own _, .base (.int c), T.plc.kiP, _, rfl, iteF ?_⟩
        exact ⟨_, rfl, _, 1, rfl, fin⟩
end
end K23

set_option maxHeartbeats 4000000
namespace K23
open PySem PySem.Spec PyProof.Rows L2 Z
/-! ### reads, statements: the objects -/
theorem pl {f : Str} {v : V} {fs : List (Str × V)} {n : Nat} (h : fs.length < n) : (putF f v fs).length < n + 1 := Nat.lt_of_le_of_lt (length_putF f v fs) (Nat.succ_lt_succ h)
theorem pl0 {n : Nat} : ([] : List (Str × V)).length < n + 1 := Nat.succ_pos _
theorem ins_inj {H : Hp} {p C D dx dy : Addr} {fs gs : List (Str × V)} (h1 : H p = some (.ins C dx fs)) (h2 : H p = some (.ins D dy gs)) : fs = gs := by
  rw [h1] at h2
  exact congrArg (fun o : Option HO => match o with | some (.ins _ _ fs) => fs | _ => []) h2
section
variable {K : PySem.W.Frag} {H H' : Hp} {p C dx : Addr} {fs : List (Str × V)}
theorem _root_.Z.StrAt.up {q : Addr} {a b c : Int} (h : StrAt K H q a b c) (hp : H p = some (.ins C dx fs)) (k : Keep p H H') (ni : fs.lookup ("i" : Str) = none) : StrAt K H' q a b c := by
  obtain ⟨dq, hq⟩ := h
  refine ⟨dq, k _ _ (fun z => ?_) hq⟩
  subst z
  have e := ins_inj hp hq
  rw [e, sf_i] at ni
  cases ni
theorem _root_.Z.PlcAt.up {q : Addr} {a b c d : Int} (h : PlcAt K H q a b c d) (hp : H p = some (.ins C dx fs)) (k : Keep p H H') (nl : fs.lookup ("straight" : Str) = none) (ni : fs.lookup ("i" : Str) = none) : PlcAt K H' q a b c d := by
  obtain ⟨dq, r, hq, hr⟩ := h
  refine ⟨dq, r, k _ _ (fun z => ?_) hq, hr.up hp k ni⟩
  subst z
  have e := ins_inj hp hq
  rw [e, pf_s] at nl
  cases nl
theorem _root_.Z.SumV.up {v : V} {a b c : Int} (h : SumV K H v a b c) (hp : H p = some (.ins C dx fs)) (k : Keep p H H') (ni : fs.lookup ("i" : Str) = none) : SumV K H' v a b c := by
  rcases h with ⟨q, e, hq⟩ | h
  · exact .inl ⟨q, e, hq.up hp k ni⟩
  · exact .inr h
theorem PlV.up {v : V} {a b c d : Int} (h : PlV K H v a b c d) (hp : H p = some (.ins C dx fs)) (k : Keep p H H') (nl : fs.lookup ("straight" : Str) = none) (ni : fs.lookup ("i" : Str) = none) : PlV K H' v a b c d := by
  rcases h with ⟨q, e, hq⟩ | ⟨h, e⟩
  · exact .inl ⟨q, e, hq.up hp k nl ni⟩
  · exact .inr ⟨h.up hp k ni, e⟩
theorem rd_up {l : Addr} {u : HO} (h : Rd H l u) (hp : H p = some (.ins C dx fs)) (k : Keep p H H') (nu : ∀ C d fs, u ≠ .ins C d fs) : Rd H' l u := by
  rcases h with h | ⟨o, h⟩
  · refine .inl (k _ _ (fun z => ?_) h)
    subst z
    rw [hp] at h
    exact nu _ _ _ (Option.some.inj h).symm
  · refine .inr ⟨o, k _ _ (fun z => ?_) h⟩
    subst z
    rw [hp] at h
    cases h
theorem SqT.up {l : Addr} {xs : List V} (h : SqT K H l xs) (hp : H p = some (.ins C dx fs)) (k : Keep p H H') : SqT K H' l xs := h.imp (fun r => rd_up r hp k fun _ _ _ z => by cases z) id
theorem SqL.up {l : Addr} {xs : List V} (h : SqL K H l xs) (hp : H p = some (.ins C dx fs)) (k : Keep p H H') : SqL K H' l xs := h.imp (fun r => rd_up r hp k fun _ _ _ z => by cases z) id
theorem SqA.up {l : Addr} {xs : List V} (h : SqA K H l xs) (hp : H p = some (.ins C dx fs)) (k : Keep p H H') : SqA K H' l xs := h.imp (fun r => SqL.up r hp k) fun r => SqT.up r hp k
theorem rd_same {l : Addr} {u : HO} (h : Rd H l u) (s : Same H H') : Rd H' l u := h.imp (fun h => s _ _ h) fun ⟨o, h⟩ => ⟨o, s _ _ h⟩
theorem SqT.same {l : Addr} {xs : List V} (h : SqT K H l xs) (s : Same H H') : SqT K H' l xs := h.imp (fun r => rd_same r s) id
theorem SqL.same {l : Addr} {xs : List V} (h : SqL K H l xs) (s : Same H H') : SqL K H' l xs := h.imp (fun r => rd_same r s) id
theorem SqA.same {l : Addr} {xs : List V} (h : SqA K H l xs) (s : Same H H') : SqA K H' l xs := h.imp (fun r => SqL.same r s) fun r => SqT.same r s
theorem Keep.ofSame (s : Same H H') : Keep p H H' := fun b o _ e => s b o e
theorem keep_upd {o : HO} (k : Keep p H H') : Keep p H (upd H' p o) := fun b u nb e => by
  rw [upd_ne nb]
  exact k b u nb e
theorem keep_upd1 {o : HO} : Keep p H (upd H p o) := keep_upd fun _ _ _ e => e
theorem keep_trans {H'' : Hp} (k : Keep p H H') (s : Same H' H'') : Keep p H H'' := fun b u nb e => s _ _ (k b u nb e)
theorem keep_trans2 {H'' : Hp} (k : Keep p H H') (s : Keep p H' H'') : Keep p H H'' := fun b u nb e => s _ _ nb (k b u nb e)
/-- tuple(xs) of a list or a tuple -/
theorem tup_any {l : Addr} {xs : List V} {Q : VK} (h : SqA K H l xs) (k : ∀ t H', Same H H' → SqT K H' t xs → Q (.ref t) H') : (SqL K H l xs ∧ ∀ t, H t = none → Q (.ref t) (upd H t (.tup xs))) ∨ (SqT K H l xs ∧ Q (.ref l) H) := by
  rcases h with h | h
  · exact .inl ⟨h, fun t ht => k t _ (Same.new _ (Same.refl H) ht) (SqT.of upd_same)⟩
  · exact .inr ⟨h, k l H (Same.refl H) h⟩
theorem for_any {a : Addr} {xs : List V} {g : TG} {tb : TS} {D : Ends} {σ : L2.St} (hq : SqA K H a xs) (Pv : Nat → L2.St → Hp → Prop) (h0 : Pv 0 σ H) (hl : ∀ i σ' H', Pv i σ' H' → Same H H')
    (hs : ∀ i x σ H, xs[i]? = some x → Pv i σ H → g x σ H fun σ2 H2 => tb { D with nx := Pv (i + 1), ct := Pv (i + 1), bk := D.nx } σ2 H2) (hd : ∀ σ H, Pv xs.length σ H → D.nx σ H) :
    ((∃ xs, SqL K H a xs) ∧ ∃ W : Nat → Nat → L2.St → Hp → Prop, (∃ m, W 0 m σ H) ∧ ∀ i m σ H, W i m σ H →
      ((Itl K a).stop i H ∧ D.nx σ H) ∨ ((Itl K a).go i H ∧ ∃ N : L2.St → Hp → Prop, (∀ σ' H', N σ' H' → ∃ m', m' < m ∧ W (i + 1) m' σ' H') ∧ ∀ x H', (Itl K a).yld i H x H' → g x σ H' fun σ2 H2 => tb { D with nx := N, ct := N, bk := D.nx } σ2 H2)) ∨
    ((∃ xs, SqT K H a xs) ∧ ∃ W : Nat → Nat → L2.St → Hp → Prop, (∃ m, W 0 m σ H) ∧ ∀ i m σ H, W i m σ H →
      ((Itt K a).stop i H ∧ D.nx σ H) ∨ ((Itt K a).go i H ∧ ∃ N : L2.St → Hp → Prop, (∀ σ' H', N σ' H' → ∃ m', m' < m ∧ W (i + 1) m' σ' H') ∧ ∀ x H', (Itt K a).yld i H x H' → g x σ H' fun σ2 H2 => tb { D with nx := N, ct := N, bk := D.nx } σ2 H2)) := by
  rcases hq with h | h
  · exact .inl ⟨⟨xs, h⟩, for_list Pv h0 (fun i σ' H' _ q => SqL.same h (hl i σ' H' q)) hs hd⟩
  · exact .inr ⟨⟨xs, h⟩, for_tup Pv h0 (fun i σ' H' _ q => SqT.same h (hl i σ' H' q)) hs hd⟩
end
def rdf (x : Str) (q : Addr) (f : Int) : List (Str × V) := putF "factor" (.int f) (putF "place" (.ref q) (putF "array" (.str x) []))
def stf (x : Str) (q : Addr) (k : Int) (r g : Addr) : List (Str × V) := putF "conditions" (.ref g) (putF "reads" (.ref r) (putF "constant" (.int k) (putF "cell" (.ref q) (putF "array" (.str x) []))))
theorem ne1 : ¬ (("array" : Str) = "place") := by decide +kernel
theorem ne2 : ¬ (("array" : Str) = "factor") := by decide +kernel
theorem ne3 : ¬ (("place" : Str) = "factor") := by decide +kernel
theorem ne4 : ¬ (("array" : Str) = "cell") := by decide +kernel
theorem ne5 : ¬ (("array" : Str) = "constant") := by decide +kernel
theorem ne6 : ¬ (("array" : Str) = "reads") := by decide +kernel
theorem ne7 : ¬ (("array" : Str) = "conditions") := by decide +kernel
theorem ne8 : ¬ (("cell" : Str) = "constant") := by decide +kernel
theorem ne9 : ¬ (("cell" : Str) = "reads") := by decide +kernel
theorem ne10 : ¬ (("cell" : Str) = "conditions") := by decide +kernel
theorem ne11 : ¬ (("constant" : Str) = "reads") := by decide +kernel
theorem ne12 : ¬ (("constant" : Str) = "conditions") := by decide +kernel
theorem ne13 : ¬ (("reads" : Str) = "conditions") := by decide +kernel
theorem rdf_a (x : Str) (q : Addr) (f : Int) : (rdf x q f).lookup ("array" : Str) = some (.str x) := by
  unfold rdf
  rw [lookup_putF, if_neg ne2, lookup_putF, if_neg ne1, lookup_putF, if_pos rfl]
theorem rdf_p (x : Str) (q : Addr) (f : Int) : (rdf x q f).lookup ("place" : Str) = some (.ref q) := by
  unfold rdf
  rw [lookup_putF, if_neg ne3, lookup_putF, if_pos rfl]
theorem rdf_f (x : Str) (q : Addr) (f : Int) : (rdf x q f).lookup ("factor" : Str) = some (.int f) := by
  unfold rdf
  rw [lookup_putF, if_pos rfl]
theorem stf_a (x : Str) (q : Addr) (k : Int) (r g : Addr) : (stf x q k r g).lookup ("array" : Str) = some (.str x) := by
  unfold stf
  rw [lookup_putF, if_neg ne7, lookup_putF, if_neg ne6, lookup_putF, if_neg ne5, lookup_putF, if_neg ne4, lookup_putF, if_pos rfl]
theorem stf_c (x : Str) (q : Addr) (k : Int) (r g : Addr) : (stf x q k r g).lookup ("cell" : Str) = some (.ref q) := by
  unfold stf
  rw [lookup_putF, if_neg ne10, lookup_putF, if_neg ne9, lookup_putF, if_neg ne8, lookup_putF, if_pos rfl]
theorem stf_k (x : Str) (q : Addr) (k : Int) (r g : Addr) : (stf x q k r g).lookup ("constant" : Str) = some (.int k) := by
  unfold stf
  rw [lookup_putF, if_neg ne12, lookup_putF, if_neg ne11, lookup_putF, if_pos rfl]
theorem stf_r (x : Str) (q : Addr) (k : Int) (r g : Addr) : (stf x q k r g).lookup ("reads" : Str) = some (.ref r) := by
  unfold stf
  rw [lookup_putF, if_neg ne13, lookup_putF, if_pos rfl]
theorem stf_g (x : Str) (q : Addr) (k : Int) (r g : Addr) : (stf x q k r g).lookup ("conditions" : Str) = some (.ref g) := by
  unfold stf
  rw [lookup_putF, if_pos rfl]
section
variable (K : PySem.W.Frag)
def RdAt (H : Hp) (p : Addr) (x : Str) (a b c d f : Int) : Prop := ∃ dx q, H p = some (.ins (CRd K) dx (rdf x q f)) ∧ PlcAt K H q a b c d
/-- a condition: its sum -/
def CndAt (H : Hp) (v : V) (t : Int × Int × Int) : Prop := ∃ r C dx fs q, v = .ref r ∧ H r = some (.ins C dx fs) ∧ Cls K C ∧ NoAttr K C "straight" ∧ fs.lookup ("straight" : Str) = some (.ref q) ∧ StrAt K H q t.1 t.2.1 t.2.2
def Cnds (H : Hp) (cs : List V) (cc : List (Int × Int × Int)) : Prop := cs.length = cc.length ∧ ∀ (i : Nat) (v : V) (t : Int × Int × Int), cs[i]? = some v → cc[i]? = some t → CndAt K H v t
def StmAt (H : Hp) (p : Addr) (x : Str) (a b c k : Int) (rs cs : List V) : Prop := ∃ dx q r g, H p = some (.ins (CSt K) dx (stf x q k r g)) ∧ StrAt K H q a b c ∧ SqT K H r rs ∧ SqT K H g cs
def spRdI : Sp := fun vs H Q E => ∃ (p dx : Addr) (x : Str) (v : V) (f a b c d : Int), vs = [.ref p, .str x, v, .int f] ∧ H p = some (.ins (CRd K) dx []) ∧ x.length ≤ 1000 ∧ PlV K H v a b c d ∧
  Out (ckRead x f a b c d) (RzK K p H E) (∀ q H', H' p = some (.ins (CRd K) dx (rdf x q f)) → PlcAt K H' q a b c d → Keep p H H' → Q .non H')
def spStI : Sp := fun vs H Q E => ∃ (p dx : Addr) (x : Str) (v : V) (k : Int) (lr lc : Addr) (rs cs : List V) (cc : List (Int × Int × Int)) (a b c : Int), vs = [.ref p, .str x, v, .int k, .ref lr, .ref lc] ∧ H p = some (.ins (CSt K) dx []) ∧ x.length ≤ 1000 ∧ SumV K H v a b c ∧
  SqA K H lr rs ∧ SqA K H lc cs ∧ Cnds K H cs cc ∧ Out (ckStm rs.length cs.length x cc a b c k) (RzK K p H E) (∀ q r g H', H' p = some (.ins (CSt K) dx (stf x q k r g)) → StrAt K H' q a b c → SqT K H' r rs → SqT K H' g cs → Keep p H H' → Q .non H')
end
theorem CndAt.same {K : PySem.W.Frag} {H H' : Hp} {v : V} {t : Int × Int × Int} (h : CndAt K H v t) (s : Same H H') : CndAt K H' v t := by
  obtain ⟨r, C, dx, fs, q, e, h1, h2, h3, h4, h5⟩ := h
  exact ⟨r, C, dx, fs, q, e, s _ _ h1, h2, h3, h4, h5.same s⟩
theorem Cnds.same {K : PySem.W.Frag} {H H' : Hp} {cs : List V} {cc : List (Int × Int × Int)} (h : Cnds K H cs cc) (s : Same H H') : Cnds K H' cs cc := ⟨h.1, fun i v t h1 h2 => (h.2 i v t h1 h2).same s⟩
theorem RdAt.same {K : PySem.W.Frag} {H H' : Hp} {p : Addr} {x : Str} {a b c d f : Int} (h : RdAt K H p x a b c d f) (s : Same H H') : RdAt K H' p x a b c d f := by
  obtain ⟨dx, q, h, h2⟩ := h
  exact ⟨dx, q, s _ _ h, h2.same s⟩
theorem StmAt.same {K : PySem.W.Frag} {H H' : Hp} {p : Addr} {x : Str} {a b c k : Int} {rs cs : List V} (h : StmAt K H p x a b c k rs cs) (s : Same H H') : StmAt K H' p x a b c k rs cs := by
  obtain ⟨dx, q, r, g, h, h2, h3, h4⟩ := h
  exact ⟨dx, q, r, g, s _ _ h, h2.same s, SqT.same h3 s, SqT.same h4 s⟩
theorem norm {N : L2.St → Hp → Prop} {σ σ' : L2.St} {H : Hp} (e : σ = σ') (h : N σ' H) : N σ H := e ▸ h
theorem normG {i : Nat} {v : V} {σ σ' : L2.St} {H : Hp} {N : L2.St → Hp → Prop} (e : σ.set i (some v) = σ') (h : N σ' H) : gName i v σ H N := by
  subst e
  exact h
section
variable {P : Program} {w : World} {K : PySem.W.Frag} {mg : Str → Option Value} {base : Heap}
theorem scRead__init__ : FnScope ["self", "array", "place", "factor"] ["self", "array", "place", "factor"] (defScope iRead__init__) := ⟨rfl, rfl, rfl, by decide +kernel, rfl, by decide +kernel, by decide +kernel⟩
theorem ok_RdI {fd : FuncData} {kws : List (Str × V)} (F : FunD K "__init__" "Read.__init__" (defArgs iRead__init__) (defBody iRead__init__) (defScope iRead__init__) [] kws (He.ma K (CRd K) "__init__") fd) (T : PrTx K mg) (MB : Mx P w K mg base "BadNumber" ["self", "what", "number"] ["what", "number"])
    (dCkA : Dx P w K mg base 3 "check_name" ["array"] (spCkA K)) (dCkN : Dx P w K mg base 3 "check_number" ["what", "number", "low", "high"] (spCkN K)) (dPLike : Dn P w K mg base 6 "place_like" ["value"] (spPLike K)) (dCkP : Dx P w K mg base 5 "check_place" ["place"] (spCkP K)) :
    FnOk P w K mg base (L2.CX P w) 7 (He.ma K (CRd K) "__init__") fd ["self", "array", "place", "factor"] (spRdI K) := by
  refine F.ok scRead__init__ (fun vs H Q E h => ?_) (fun cdv A outer s H vs Q E hr h => ?_)
  · obtain ⟨p, dx, x, v, f, a, b, c, d, rfl, _⟩ := h
    rfl
  · obtain ⟨p, dx, x, v, f, a, b, c, d, rfl, hp, hx, hv, k⟩ := h
    obtain ⟨tTOP_ONE, hTOP_ONE⟩ := T.con ("TOP_ONE", 999) (by simp)
    refine ⟨_, (pss_cons (ps_expr (pe_dx (K := K) dCkA rfl hr (fun σ => passAt (takes_of rfl rfl rfl rfl) σ) (pa_cons (pv 1) pa_nil)))
      (pss_cons (ps_if (pt_cmpR op_eq (pv 3) pe_int (nomark _)) (pss_one (ps_raise rfl (takes_of rfl rfl rfl rfl) (pmk_err MB hr (pa_cons pe_str (pa_cons (pv 3) pa_nil))))) pss_nil)
      (pss_cons (ps_expr (pe_dx (K := K) dCkN rfl hr (fun σ => passAt (takes_of rfl rfl rfl rfl) σ) (pa_cons pe_str (pa_cons (pv 3) (pa_cons (pe_un un_neg (pe_glob (v := .int 999) rfl hTOP_ONE ⟨tTOP_ONE, rfl⟩)) (pa_cons (pe_glob (v := .int 999) rfl hTOP_ONE ⟨tTOP_ONE, rfl⟩) pa_nil))))))
      (pss_cons (ps_fld (pv 0) (pv 1) rfl)
      (pss_cons (ps_fld (pv 0) (pe_dn dPLike hr (pa_cons (pv 2) pa_nil)) rfl)
      (pss_cons (ps_fld (pv 0) (pv 3) rfl)
      (pss_one (ps_expr (pe_dx (K := K) dCkP rfl hr (fun σ => passAt (takes_of rfl rfl rfl rfl) σ) (pa_cons (pe_fld (pv 0) rfl) pa_nil)))))))))), ?_⟩
    refine ⟨_, rfl, x, rfl, hx, k.or (fun e z => z.rz (Keep.ofSame (Same.refl H))) fun k H1 s1 => ?_⟩
    have k1 : ∀ e, RzK K p H E e → Rz K H1 E e := fun e z => z.rz (Keep.ofSame s1)
    refine ⟨_, rfl, rfl, _, rfl, ?_⟩
    by_cases hf : f = 0
    · subst hf
      have bad := k1 _ (k.1 (.num "factor" 0) rfl)
      exact if_yes (decide_eq_true rfl) ⟨_, rfl, err_go (K := K) (x := "BadNumber") (fs := ["what", "number"]) (by show 2 ≤ 1000; decide) rfl fun d H' s hd => bad d H' s hd⟩
    rw [if_neg hf] at k
    refine if_no (decide_eq_false fun z => hf (V.int.inj z)) ?_
    refine ⟨_, rfl, _, rfl, _, _, _, _, rfl, Out.or (o1 := ckN "factor" f (-999) 999) k k1 fun k => ?_⟩
    refine ⟨_, rfl, _, rfl, p, _, dx, _, rfl, s1 _ _ hp, T.clR, T.nRA, pl0, ?_⟩
    have n1 : (putF "array" (V.str x) []).lookup ("straight" : Str) = none ∧ (putF "array" (V.str x) []).lookup ("i" : Str) = none := by
      rw [lookup_putF, if_neg (by decide +kernel), lookup_putF, if_neg (by decide +kernel)]
      exact ⟨rfl, rfl⟩
    have hv1 := (hv.same s1).up (s1 _ _ hp) (keep_upd1 (o := .ins (CRd K) dx (putF "array" (.str x) []))) rfl rfl
    refine ⟨_, rfl, v, a, b, c, d, rfl, hv1, fun q H2 s2 hq => ?_⟩
    have hp2 := s2 _ _ (upd_same (H := H1) (a := p))
    have kp2 : Keep p H H2 := keep_trans (keep_upd (Keep.ofSame s1)) s2
    refine ⟨_, rfl, p, _, dx, _, rfl, hp2, T.clR, T.nRP, pl pl0, ?_⟩
    have hq1 := hq.up hp2 (keep_upd1 (o := .ins (CRd K) dx (putF "place" (.ref q) (putF "array" (.str x) [])))) n1.1 n1.2
    refine ⟨_, rfl, _, rfl, p, _, dx, _, rfl, upd_same, T.clR, T.nRF, pl (pl pl0), ?_⟩
    have n2 : (putF "place" (V.ref q) (putF "array" (V.str x) [])).lookup ("straight" : Str) = none ∧ (putF "place" (V.ref q) (putF "array" (V.str x) [])).lookup ("i" : Str) = none := by
      rw [lookup_putF, if_neg (by decide +kernel), lookup_putF (f := "place"), if_neg (by decide +kernel)]
      exact n1
    have hq2 := hq1.up upd_same (keep_upd1 (o := .ins (CRd K) dx (rdf x q f))) n2.1 n2.2
    have kp3 : Keep p H (upd (upd H2 p (.ins (CRd K) dx (putF "place" (.ref q) (putF "array" (.str x) [])))) p (.ins (CRd K) dx (rdf x q f))) := keep_upd (keep_upd kp2)
    refine ⟨_, rfl, p, _, dx, _, _, rfl, upd_same, T.clR, T.nRP, rdf_p x q f, q, a, b, c, d, rfl, hq2, Out.end_ k (fun e z => z.rz kp3) fun k => ?_⟩
    exact k q _ upd_same hq2 kp3
end
end K23

set_option maxHeartbeats 4000000
namespace K23
open PySem PySem.Spec PyProof.Rows L2 Z
section
variable {P : Program} {w : World} {K : PySem.W.Frag} {mg : Str → Option Value} {base : Heap}
theorem nlk {f g : Str} {v : V} {fs : List (Str × V)} (h : ¬ g = f) (k : fs.lookup g = none) : (putF f v fs).lookup g = none := by
  rw [lookup_putF, if_neg h]
  exact k
theorem cnd_at {K : PySem.W.Frag} {H : Hp} {cs : List V} {cc : List (Int × Int × Int)} (h : Cnds K H cs cc) {i : Nat} {v : V} (hv : cs[i]? = some v) : ∃ t, cc[i]? = some t ∧ CndAt K H v t ∧ cc.drop i = t :: cc.drop (i + 1) := by
  have hi : i < cs.length := by
    rw [List.getElem?_eq_some_iff] at hv
    exact hv.1
  have hj : i < cc.length := by rw [← h.1]; exact hi
  refine ⟨cc[i], List.getElem?_eq_getElem hj, h.2 i v _ hv (List.getElem?_eq_getElem hj), ?_⟩
  exact List.drop_eq_getElem_cons hj
theorem scStatement__init__ : FnScope ["self", "array", "cell", "constant", "reads", "conditions", "condition"] ["self", "array", "cell", "constant", "reads", "conditions"] (defScope iStatement__init__) := ⟨rfl, rfl, rfl, by decide +kernel, rfl, by decide +kernel, by decide +kernel⟩
theorem ok_StI {fd : FuncData} {kws : List (Str × V)} (F : FunD K "__init__" "Statement.__init__" (defArgs iStatement__init__) (defBody iStatement__init__) (defScope iStatement__init__) [] kws (He.ma K (CSt K) "__init__") fd) (T : PrTx K mg)
    (dCkM : Dx P w K mg base 3 "check_many" ["what", "things", "most"] (spCkM K)) (dCkA : Dx P w K mg base 3 "check_name" ["array"] (spCkA K)) (dCkN : Dx P w K mg base 3 "check_number" ["what", "number", "low", "high"] (spCkN K))
    (dCkS : Dx P w K mg base 4 "check_sum" ["straight"] (spCkS K)) (dLike : Dn P w K mg base 3 "straight_like" ["value"] (spLike K)) :
    FnOk P w K mg base (L2.CX P w) 5 (He.ma K (CSt K) "__init__") fd ["self", "array", "cell", "constant", "reads", "conditions"] (spStI K) := by
  refine F.ok scStatement__init__ (fun vs H Q E h => ?_) (fun cdv A outer s H vs Q E hr h => ?_)
  · obtain ⟨p, dx, x, v, k, lr, lc, rs, cs, cc, a, b, c, rfl, _⟩ := h
    rfl
  · obtain ⟨p, dx, x, v, k, lr, lc, rs, cs, cc, a, b, c, rfl, hp, hx, hv, hlr, hlc, hcc, kk⟩ := h
    obtain ⟨tTOP_ONE, hTOP_ONE⟩ := T.con ("TOP_ONE", 999) (by simp)
    obtain ⟨tMOST_READS, hMOST_READS⟩ := T.con ("MOST_READS", 3) (by simp)
    obtain ⟨tMOST_CONDITIONS, hMOST_CONDITIONS⟩ := T.con ("MOST_CONDITIONS", 3) (by simp)
    refine ⟨_, (pss_cons (ps_expr (pe_dx (K := K) dCkM rfl hr (fun σ => passAt (takes_of rfl rfl rfl rfl) σ) (pa_cons pe_str (pa_cons (pv 4) (pa_cons (pe_glob (v := .int 3) rfl hMOST_READS ⟨tMOST_READS, rfl⟩) pa_nil)))))
      (pss_cons (ps_expr (pe_dx (K := K) dCkM rfl hr (fun σ => passAt (takes_of rfl rfl rfl rfl) σ) (pa_cons pe_str (pa_cons (pv 5) (pa_cons (pe_glob (v := .int 3) rfl hMOST_CONDITIONS ⟨tMOST_CONDITIONS, rfl⟩) pa_nil)))))
      (pss_cons (ps_expr (pe_dx (K := K) dCkA rfl hr (fun σ => passAt (takes_of rfl rfl rfl rfl) σ) (pa_cons (pv 1) pa_nil)))
      (pss_cons (ps_for (passes_of rfl) rfl (pi_any (pv 5)) (pg_name (i := 6) scStatement__init__.nd rfl (.inl rfl)) (pss_one (ps_expr (pe_dx (K := K) dCkS rfl hr (fun σ => passAt (takes_of rfl rfl rfl rfl) σ) (pa_cons (pe_fld (pv 6) rfl) pa_nil)))))
      (pss_cons (ps_fld (pv 0) (pv 1) rfl)
      (pss_cons (ps_fld (pv 0) (pe_dn dLike hr (pa_cons (pv 2) pa_nil)) rfl)
      (pss_cons (ps_expr (pe_dx (K := K) dCkS rfl hr (fun σ => passAt (takes_of rfl rfl rfl rfl) σ) (pa_cons (pe_fld (pv 0) rfl) pa_nil)))
      (pss_cons (ps_expr (pe_dx (K := K) dCkN rfl hr (fun σ => passAt (takes_of rfl rfl rfl rfl) σ) (pa_cons pe_str (pa_cons (pv 3) (pa_cons (pe_un un_neg (pe_glob (v := .int 999) rfl hTOP_ONE ⟨tTOP_ONE, rfl⟩)) (pa_cons (pe_glob (v := .int 999) rfl hTOP_ONE ⟨tTOP_ONE, rfl⟩) pa_nil))))))
      (pss_cons (ps_fld (pv 0) (pv 3) rfl)
      (pss_cons (ps_fld (pv 0) (pe_callTy call_tuple_of (by rfl) T.tuple (by decide +kernel) (pa_cons (pv 4) pa_nil)) rfl)
      (pss_one (ps_fld (pv 0) (pe_callTy call_tuple_of (by rfl) T.tuple (by decide +kernel) (pa_cons (pv 5) pa_nil)) rfl)))))))))))), ?_⟩
    have k0 : ∀ e, RzK K p H E e → Rz K H E e := fun e z => z.rz (Keep.ofSame (Same.refl H))
    refine ⟨_, rfl, _, _, _, _, rfl, hlr, kk.or k0 fun kk => ?_⟩
    refine ⟨_, rfl, _, _, _, _, rfl, hlc, kk.or k0 fun kk => ?_⟩
    refine ⟨_, rfl, x, rfl, hx, kk.or k0 fun kk H1 s1 => ?_⟩
    have k1 : ∀ e, RzK K p H E e → Rz K H1 E e := fun e z => z.rz (Keep.ofSame s1)
    have hcc1 := hcc.same s1
    refine ⟨_, rfl, lc, rfl, ?_⟩
    refine for_any (xs := cs) (SqA.same hlc s1) (fun i σ H' => ∃ v6 : Option V, σ = [some (.ref p), some (.str x), some v, some (.int k), some (.ref lr), some (.ref lc), v6] ∧ H' = H1 ∧
      Out ((ckCs (cc.drop i)).or ((ckS a b c).or (ckN "constant" k (-999) 999))) (RzK K p H E) (∀ (q r g : Addr) (H' : Hp), H' p = some (.ins (CSt K) dx (stf x q k r g)) → StrAt K H' q a b c → SqT K H' r rs → SqT K H' g cs → Keep p H H' → Q .non H')) ⟨_, rfl, rfl, kk⟩ (fun i σ' H' ⟨_, _, e, _⟩ => e ▸ Same.refl H1) ?_ ?_
    · rintro i y σ H' hy ⟨v6, rfl, rfl, kk⟩
      obtain ⟨t, ht, ⟨r, C, dy, fs, q, rfl, hr1, cl, na, lk, hq⟩, hd⟩ := cnd_at hcc1 hy
      rw [hd] at kk
      have e : (ckCs (t :: cc.drop (i + 1))).or ((ckS a b c).or (ckN "constant" k (-999) 999)) = (ckS t.1 t.2.1 t.2.2).or ((ckCs (cc.drop (i + 1))).or ((ckS a b c).or (ckN "constant" k (-999) 999))) := by
        show ((ckS t.1 t.2.1 t.2.2).or (ckCs (cc.drop (i + 1)))).or _ = _
        rw [Option.or_assoc]
      rw [e] at kk
      refine normG (σ' := [some (.ref p), some (.str x), some v, some (.int k), some (.ref lr), some (.ref lc), some (.ref r)]) rfl ?_
      exact ⟨_, rfl, r, C, dy, _, _, rfl, hr1, cl, na, lk, q, _, _, _, rfl, hq, kk.or k1 fun kk => ⟨_, rfl, rfl, kk⟩⟩
    rintro σ H' ⟨v6, rfl, rfl, kk⟩
    have e0 : cc.drop cs.length = [] := by rw [hcc.1, List.drop_length]
    rw [e0] at kk
    rw [show (ckCs ([] : List (Int × Int × Int))).or ((ckS a b c).or (ckN "constant" k (-999) 999)) = (ckS a b c).or (ckN "constant" k (-999) 999) from rfl] at kk
    refine ⟨_, rfl, _, rfl, p, _, dx, _, rfl, s1 _ _ hp, T.clM, T.nMA, pl0, ?_⟩
    have n1 : (putF "array" (V.str x) []).lookup ("i" : Str) = none := nlk (by decide +kernel) rfl
    have hv1 := (hv.same s1).up (s1 _ _ hp) (keep_upd1 (o := .ins (CSt K) dx (putF "array" (.str x) []))) rfl
    have kp1 : Keep p H (upd H' p (.ins (CSt K) dx (putF "array" (.str x) []))) := keep_upd (Keep.ofSame s1)
    refine ⟨_, rfl, v, a, b, c, rfl, hv1, fun q H2 s2 hq => ?_⟩
    have hp2 := s2 _ _ (upd_same (H := H') (a := p))
    have kp2 : Keep p H H2 := keep_trans kp1 s2
    refine ⟨_, rfl, p, _, dx, _, rfl, hp2, T.clM, T.nMC, pl pl0, ?_⟩
    have hq1 := hq.up hp2 (keep_upd1 (o := .ins (CSt K) dx (putF "cell" (.ref q) (putF "array" (.str x) [])))) n1
    have kp3 : Keep p H (upd H2 p (.ins (CSt K) dx (putF "cell" (.ref q) (putF "array" (.str x) [])))) := keep_upd kp2
    have lkc : (putF "cell" (V.ref q) (putF "array" (V.str x) [])).lookup ("cell" : Str) = some (.ref q) := by rw [lookup_putF, if_pos rfl]
    refine ⟨_, rfl, p, _, dx, _, _, rfl, upd_same, T.clM, T.nMC, lkc, q, a, b, c, rfl, hq1, kk.or (fun e z => z.rz kp3) fun kk => ?_⟩
    refine ⟨_, rfl, _, rfl, _, _, _, _, rfl, Out.end_ kk (fun e z => z.rz kp3) fun kk => ?_⟩
    refine ⟨_, rfl, _, rfl, p, _, dx, _, rfl, upd_same, T.clM, T.nMK, pl (pl pl0), ?_⟩
    have n2 : (putF "cell" (V.ref q) (putF "array" (V.str x) [])).lookup ("i" : Str) = none := nlk (by decide +kernel) n1
    have hq2 := hq1.up upd_same (keep_upd1 (o := .ins (CSt K) dx (putF "constant" (.int k) (putF "cell" (.ref q) (putF "array" (.str x) []))))) n2
    have n3 : (putF "constant" (V.int k) (putF "cell" (V.ref q) (putF "array" (V.str x) []))).lookup ("i" : Str) = none := nlk (by decide +kernel) n2
    obtain ⟨H3, eH3⟩ : ∃ L, L = upd (upd H2 p (.ins (CSt K) dx (putF "cell" (.ref q) (putF "array" (.str x) [])))) p (.ins (CSt K) dx (putF "constant" (.int k) (putF "cell" (.ref q) (putF "array" (.str x) [])))) := ⟨_, rfl⟩
    have kp4 : Keep p H H3 := by rw [eH3]; exact keep_upd kp3
    have hp3 : H3 p = some (.ins (CSt K) dx (putF "constant" (.int k) (putF "cell" (.ref q) (putF "array" (.str x) [])))) := by rw [eH3]; exact upd_same
    rw [← eH3] at hq2 ⊢
    have tail : ∀ (r : Addr) (H4 : Hp), Same H3 H4 → SqT K H4 r rs → H4 p = some (.ins (CSt K) dx (putF "constant" (.int k) (putF "cell" (.ref q) (putF "array" (.str x) [])))) ∧
        SqA K (upd H4 p (.ins (CSt K) dx (putF "reads" (.ref r) (putF "constant" (.int k) (putF "cell" (.ref q) (putF "array" (.str x) [])))))) lc cs ∧
        ∀ (g : Addr) (H6 : Hp), Same (upd H4 p (.ins (CSt K) dx (putF "reads" (.ref r) (putF "constant" (.int k) (putF "cell" (.ref q) (putF "array" (.str x) [])))))) H6 → SqT K H6 g cs →
          H6 p = some (.ins (CSt K) dx (putF "reads" (.ref r) (putF "constant" (.int k) (putF "cell" (.ref q) (putF "array" (.str x) []))))) ∧ Q .non (upd H6 p (.ins (CSt K) dx (stf x q k r g))) := by
      intro r H4 s4 hr4
      have hp4 := s4 _ _ hp3
      have k45 : Keep p H4 (upd H4 p (.ins (CSt K) dx (putF "reads" (.ref r) (putF "constant" (.int k) (putF "cell" (.ref q) (putF "array" (.str x) [])))))) := keep_upd1
      have kp5 := keep_trans2 (keep_trans kp4 s4) k45
      refine ⟨hp4, SqA.up hlc hp kp5, fun g H6 s6 hg6 => ?_⟩
      have hp6 := s6 _ _ upd_same
      have k67 : Keep p H6 (upd H6 p (.ins (CSt K) dx (stf x q k r g))) := keep_upd1
      have hr5 := SqT.up hr4 hp4 k45
      have hq5 := (hq2.same s4).up hp4 k45 n3
      exact ⟨hp6, kk q r g _ upd_same ((hq5.same s6).up hp6 k67 (nlk (by decide +kernel) n3)) (SqT.up (SqT.same hr5 s6) hp6 k67) (SqT.up hg6 hp6 k67) (keep_trans2 (keep_trans kp5 s6) k67)⟩
    rcases SqA.up hlr hp kp4 with hL | hL
    · refine ⟨_, rfl, lr, rs, rfl, .inl ⟨hL, fun r hr => ?_⟩⟩
      obtain ⟨t1, t2, t3⟩ := tail r _ (Same.new (.tup rs) (Same.refl H3) hr) (SqT.of upd_same)
      refine ⟨_, rfl, p, _, dx, _, rfl, t1, T.clM, T.nMR, pl (pl (pl pl0)), ?_⟩
      rcases t2 with hC | hC
      · refine ⟨_, rfl, lc, cs, rfl, .inl ⟨hC, fun g hg => ?_⟩⟩
        obtain ⟨t4, t5⟩ := t3 g _ (Same.new (.tup cs) (Same.refl _) hg) (SqT.of upd_same)
        exact ⟨_, rfl, p, _, dx, _, rfl, t4, T.clM, T.nMG, pl (pl (pl (pl pl0))), t5⟩
      · obtain ⟨t4, t5⟩ := t3 lc _ (Same.refl _) hC
        exact ⟨_, rfl, lc, cs, rfl, .inr ⟨hC, _, rfl, p, _, dx, _, rfl, t4, T.clM, T.nMG, pl (pl (pl (pl pl0))), t5⟩⟩
    · obtain ⟨t1, t2, t3⟩ := tail lr _ (Same.refl H3) hL
      refine ⟨_, rfl, lr, rs, rfl, .inr ⟨hL, ?_⟩⟩
      refine ⟨_, rfl, p, _, dx, _, rfl, t1, T.clM, T.nMR, pl (pl (pl pl0)), ?_⟩
      rcases t2 with hC | hC
      · refine ⟨_, rfl, lc, cs, rfl, .inl ⟨hC, fun g hg => ?_⟩⟩
        obtain ⟨t4, t5⟩ := t3 g _ (Same.new (.tup cs) (Same.refl _) hg) (SqT.of upd_same)
        exact ⟨_, rfl, p, _, dx, _, rfl, t4, T.clM, T.nMG, pl (pl (pl (pl pl0))), t5⟩
      · obtain ⟨t4, t5⟩ := t3 lc _ (Same.refl _) hC
        exact ⟨_, rfl, lc, cs, rfl, .inr ⟨hC, _, rfl, p, _, dx, _, rfl, t4, T.clM, T.nMG, pl (pl (pl (pl pl0))), t5⟩⟩
end
/-! ### loops -/
def lpf (lo hi st : Addr) (S : Int) (dn : Bool) : List (Str × V) := putF "down" (.bl dn) (putF "step" (.int S) (putF "statements" (.ref st) (putF "high" (.ref hi) (putF "low" (.ref lo) []))))
theorem n_lh : ¬ (("low" : Str) = "high") := by decide +kernel
theorem n_lt : ¬ (("low" : Str) = "statements") := by decide +kernel
theorem n_ls : ¬ (("low" : Str) = "step") := by decide +kernel
theorem n_ld : ¬ (("low" : Str) = "down") := by decide +kernel
theorem n_ht : ¬ (("high" : Str) = "statements") := by decide +kernel
theorem n_hs : ¬ (("high" : Str) = "step") := by decide +kernel
theorem n_hd : ¬ (("high" : Str) = "down") := by decide +kernel
theorem n_ts : ¬ (("statements" : Str) = "step") := by decide +kernel
theorem n_td : ¬ (("statements" : Str) = "down") := by decide +kernel
theorem n_sd : ¬ (("step" : Str) = "down") := by decide +kernel
theorem lp_lo (lo hi st : Addr) (S : Int) (dn : Bool) : (lpf lo hi st S dn).lookup ("low" : Str) = some (.ref lo) := by
  unfold lpf
  rw [lookup_putF, if_neg n_ld, lookup_putF, if_neg n_ls, lookup_putF, if_neg n_lt, lookup_putF, if_neg n_lh, lookup_putF, if_pos rfl]
theorem lp_hi (lo hi st : Addr) (S : Int) (dn : Bool) : (lpf lo hi st S dn).lookup ("high" : Str) = some (.ref hi) := by
  unfold lpf
  rw [lookup_putF, if_neg n_hd, lookup_putF, if_neg n_hs, lookup_putF, if_neg n_ht, lookup_putF, if_pos rfl]
theorem lp_tt (lo hi st : Addr) (S : Int) (dn : Bool) : (lpf lo hi st S dn).lookup ("statements" : Str) = some (.ref st) := by
  unfold lpf
  rw [lookup_putF, if_neg n_td, lookup_putF, if_neg n_ts, lookup_putF, if_pos rfl]
theorem lp_st (lo hi st : Addr) (S : Int) (dn : Bool) : (lpf lo hi st S dn).lookup ("step" : Str) = some (.int S) := by
  unfold lpf
  rw [lookup_putF, if_neg n_sd, lookup_putF, if_pos rfl]
theorem lp_dn (lo hi st : Addr) (S : Int) (dn : Bool) : (lpf lo hi st S dn).lookup ("down" : Str) = some (.bl dn) := by
  unfold lpf
  rw [lookup_putF, if_pos rfl]
/-- a place's four numbers -/
abbrev P4 : Type := Int × Int × Int × Int
section
variable (K : PySem.W.Frag)
def Pl4 (H : Hp) (q : Addr) (t : P4) : Prop := PlcAt K H q t.1 t.2.1 t.2.2.1 t.2.2.2
def LpAt (H : Hp) (p : Addr) (t u : P4) (S : Int) (dn : Bool) (xs : List V) : Prop := ∃ dx lo hi st, H p = some (.ins (CL K) dx (lpf lo hi st S dn)) ∧ Pl4 K H lo t ∧ Pl4 K H hi u ∧ SqT K H st xs
def ckLp (m S : Int) (t u : P4) : Option Er := ckLoop m S t.1 t.2.1 t.2.2.1 t.2.2.2 u.1 u.2.1 u.2.2.1 u.2.2.2
def spLpI : Sp := fun vs H Q E => ∃ (p dx : Addr) (v1 v2 : V) (l : Addr) (xs : List V) (t u : P4) (S : Int) (dn : Bool), vs = [.ref p, v1, v2, .ref l, .int S, .bl dn] ∧ H p = some (.ins (CL K) dx []) ∧ PlV K H v1 t.1 t.2.1 t.2.2.1 t.2.2.2 ∧ PlV K H v2 u.1 u.2.1 u.2.2.1 u.2.2.2 ∧ SqA K H l xs ∧
  Out (ckLp xs.length S t u) (RzK K p H E) (∀ lo hi st H', H' p = some (.ins (CL K) dx (lpf lo hi st S dn)) → Pl4 K H' lo t → Pl4 K H' hi u → SqT K H' st xs → Keep p H H' → Q .non H')
end
theorem LpAt.same {K : PySem.W.Frag} {H H' : Hp} {p : Addr} {t u : P4} {S : Int} {dn : Bool} {xs : List V} (h : LpAt K H p t u S dn xs) (s : Same H H') : LpAt K H' p t u S dn xs := by
  obtain ⟨dx, lo, hi, st, h1, h2, h3, h4⟩ := h
  exact ⟨dx, lo, hi, st, s _ _ h1, PlcAt.same h2 s, PlcAt.same h3 s, SqT.same h4 s⟩
section
variable {P : Program} {w : World} {K : PySem.W.Frag} {mg : Str → Option Value} {base : Heap}
theorem scLoop__init__ : FnScope ["self", "low", "high", "statements", "step", "down"] ["self", "low", "high", "statements", "step", "down"] (defScope iLoop__init__) := ⟨rfl, rfl, rfl, by decide +kernel, rfl, by decide +kernel, by decide +kernel⟩
theorem ok_LpI {fd : FuncData} {kws : List (Str × V)} (F : FunD K "__init__" "Loop.__init__" (defArgs iLoop__init__) (defBody iLoop__init__) (defScope iLoop__init__) [] kws (He.ma K (CL K) "__init__") fd) (T : PrTx K mg) (MB : Mx P w K mg base "BadNumber" ["self", "what", "number"] ["what", "number"])
    (dCkM : Dx P w K mg base 3 "check_many" ["what", "things", "most"] (spCkM K)) (dCkN : Dx P w K mg base 3 "check_number" ["what", "number", "low", "high"] (spCkN K)) (dPLike : Dn P w K mg base 6 "place_like" ["value"] (spPLike K)) (dCkR : Dx P w K mg base 4 "check_range_place" ["place"] (spCkR K)) :
    FnOk P w K mg base (L2.CX P w) 7 (He.ma K (CL K) "__init__") fd ["self", "low", "high", "statements", "step", "down"] (spLpI K) := by
  refine F.ok scLoop__init__ (fun vs H Q E h => ?_) (fun cdv A outer s H vs Q E hr h => ?_)
  · obtain ⟨p, dx, v1, v2, l, xs, t, u, S, dn, rfl, _⟩ := h
    rfl
  · obtain ⟨p, dx, v1, v2, l, xs, ⟨a, c, d, e⟩, ⟨a2, c2, d2, e2⟩, S, dn, rfl, hp, hv1, hv2, hl, kk⟩ := h
    obtain ⟨tTOP_STEP, hTOP_STEP⟩ := T.con ("TOP_STEP", 16) (by simp)
    obtain ⟨tMOST_STATEMENTS, hMOST_STATEMENTS⟩ := T.con ("MOST_STATEMENTS", 16) (by simp)
    refine ⟨_, (pss_cons (ps_expr (pe_dx (K := K) dCkM rfl hr (fun σ => passAt (takes_of rfl rfl rfl rfl) σ) (pa_cons pe_str (pa_cons (pv 3) (pa_cons (pe_glob (v := .int 16) rfl hMOST_STATEMENTS ⟨tMOST_STATEMENTS, rfl⟩) pa_nil)))))
      (pss_cons (ps_expr (pe_dx (K := K) dCkN rfl hr (fun σ => passAt (takes_of rfl rfl rfl rfl) σ) (pa_cons pe_str (pa_cons (pv 4) (pa_cons pe_int (pa_cons (pe_glob (v := .int 16) rfl hTOP_STEP ⟨tTOP_STEP, rfl⟩) pa_nil))))))
      (pss_cons (ps_fld (pv 0) (pe_dn dPLike hr (pa_cons (pv 1) pa_nil)) rfl)
      (pss_cons (ps_fld (pv 0) (pe_dn dPLike hr (pa_cons (pv 2) pa_nil)) rfl)
      (pss_cons (ps_expr (pe_dx (K := K) dCkR rfl hr (fun σ => passAt (takes_of rfl rfl rfl rfl) σ) (pa_cons (pe_fld (pv 0) rfl) pa_nil)))
      (pss_cons (ps_expr (pe_dx (K := K) dCkR rfl hr (fun σ => passAt (takes_of rfl rfl rfl rfl) σ) (pa_cons (pe_fld (pv 0) rfl) pa_nil)))
      (pss_cons (ps_if (PW.pt (pw_and (pt_cmpR op_gt (pv 4) pe_int (nomark _)) (pw_and1 (pt_cmpR op_gt (pe_fld (pe_fld (pv 0) rfl) rfl) pe_int (nomark _))))) (pss_one (ps_raise rfl (takes_of rfl rfl rfl rfl) (pmk_err MB hr (pa_cons pe_str (pa_cons (pv 4) pa_nil))))) pss_nil)
      (pss_cons (ps_fld (pv 0) (pe_callTy call_tuple_of (by rfl) T.tuple (by decide +kernel) (pa_cons (pv 3) pa_nil)) rfl)
      (pss_cons (ps_fld (pv 0) (pv 4) rfl)
      (pss_one (ps_fld (pv 0) (pv 5) rfl))))))))))), ?_⟩
    have k0 : ∀ e, RzK K p H E e → Rz K H E e := fun e z => z.rz (Keep.ofSame (Same.refl H))
    refine ⟨_, rfl, _, _, _, _, rfl, hl, kk.or k0 fun kk => ?_⟩
    refine ⟨_, rfl, _, _, _, _, rfl, kk.or k0 fun kk => ?_⟩
    refine ⟨_, rfl, v1, _, _, _, _, rfl, hv1, fun lo H1 s1 hlo => ?_⟩
    have hp1 := s1 _ _ hp
    refine ⟨_, rfl, p, _, dx, _, rfl, hp1, T.clL, T.nLo, pl0, ?_⟩
    obtain ⟨H2, eH2⟩ : ∃ L, L = upd H1 p (.ins (CL K) dx (putF "low" (.ref lo) [])) := ⟨_, rfl⟩
    have k12 : Keep p H1 H2 := by rw [eH2]; exact keep_upd1
    have hp2 : H2 p = some (.ins (CL K) dx (putF "low" (.ref lo) [])) := by rw [eH2]; exact upd_same
    rw [← eH2]
    have n1 : (putF "low" (V.ref lo) []).lookup ("straight" : Str) = none ∧ (putF "low" (V.ref lo) []).lookup ("i" : Str) = none := ⟨nlk (by decide +kernel) rfl, nlk (by decide +kernel) rfl⟩
    refine ⟨_, rfl, v2, _, _, _, _, rfl, (hv2.same s1).up hp1 k12 rfl rfl, fun hi H3 s3 hhi => ?_⟩
    have hp3 := s3 _ _ hp2
    have hlo3 := (hlo.up hp1 k12 rfl rfl).same s3
    refine ⟨_, rfl, p, _, dx, _, rfl, hp3, T.clL, T.nHi, pl pl0, ?_⟩
    obtain ⟨H4, eH4⟩ : ∃ L, L = upd H3 p (.ins (CL K) dx (putF "high" (.ref hi) (putF "low" (.ref lo) []))) := ⟨_, rfl⟩
    have k34 : Keep p H3 H4 := by rw [eH4]; exact keep_upd1
    have hp4 : H4 p = some (.ins (CL K) dx (putF "high" (.ref hi) (putF "low" (.ref lo) []))) := by rw [eH4]; exact upd_same
    rw [← eH4]
    have hlo4 := hlo3.up hp3 k34 n1.1 n1.2
    have hhi4 := hhi.up hp3 k34 n1.1 n1.2
    have kp4 : Keep p H H4 := keep_trans2 (keep_trans (keep_trans2 (Keep.ofSame s1) k12) s3) k34
    have k4 : ∀ e, RzK K p H E e → Rz K H4 E e := fun e z => z.rz kp4
    have ll : (putF "high" (V.ref hi) (putF "low" (V.ref lo) [])).lookup ("low" : Str) = some (.ref lo) := by
      rw [lookup_putF, if_neg n_lh, lookup_putF, if_pos rfl]
    have lh : (putF "high" (V.ref hi) (putF "low" (V.ref lo) [])).lookup ("high" : Str) = some (.ref hi) := by
      rw [lookup_putF, if_pos rfl]
    refine ⟨_, rfl, p, _, dx, _, _, rfl, hp4, T.clL, T.nLo, ll, lo, _, _, _, _, rfl, hlo4, kk.or k4 fun kk => ?_⟩
    refine ⟨_, rfl, p, _, dx, _, _, rfl, hp4, T.clL, T.nHi, lh, hi, _, _, _, _, rfl, hhi4, kk.or k4 fun kk => ?_⟩
    obtain ⟨dq, rq, hq1, _⟩ := id hlo4
    have n2 : (putF "high" (V.ref hi) (putF "low" (V.ref lo) [])).lookup ("straight" : Str) = none ∧ (putF "high" (V.ref hi) (putF "low" (V.ref lo) [])).lookup ("i" : Str) = none := ⟨nlk (by decide +kernel) n1.1, nlk (by decide +kernel) n1.2⟩
    have fin : ∀ (h : ¬ (1 < S ∧ 1 < e)) (t : Addr) (H5 : Hp), Same H4 H5 → SqT K H5 t xs → H5 p = some (.ins (CL K) dx (putF "high" (.ref hi) (putF "low" (.ref lo) []))) ∧ Q .non (upd (upd (upd H5 p (.ins (CL K) dx (putF "statements" (.ref t) (putF "high" (.ref hi) (putF "low" (.ref lo) []))))) p (.ins (CL K) dx (putF "step" (.int S) (putF "statements" (.ref t) (putF "high" (.ref hi) (putF "low" (.ref lo) [])))))) p (.ins (CL K) dx (lpf lo hi t S dn))) := by
      intro h t H5 s5 ht
      have kk2 := kk.2 (if_neg h)
      have hp5 := s5 _ _ hp4
      have kp5 : Keep p H5 (upd (upd (upd H5 p (.ins (CL K) dx (putF "statements" (.ref t) (putF "high" (.ref hi) (putF "low" (.ref lo) []))))) p (.ins (CL K) dx (putF "step" (.int S) (putF "statements" (.ref t) (putF "high" (.ref hi) (putF "low" (.ref lo) [])))))) p (.ins (CL K) dx (lpf lo hi t S dn))) := keep_upd (keep_upd keep_upd1)
      exact ⟨hp5, kk2 lo hi t _ upd_same ((hlo4.same s5).up hp5 kp5 n2.1 n2.2) ((hhi4.same s5).up hp5 kp5 n2.1 n2.2) (SqT.up ht hp5 kp5) (keep_trans2 (keep_trans kp4 s5) kp5)⟩
    refine ⟨_, rfl, _, _, rfl, rfl, _, rfl, ?_⟩
    by_cases hS : 1 < S
    · rw [decide_eq_true hS]
      refine iteT ⟨_, rfl, p, _, dx, _, _, rfl, hp4, T.clL, T.nLo, ll, lo, _, dq, _, _, rfl, hq1, T.plc.clP, T.plc.nD, pf_d _ _, _, _, rfl, rfl, _, rfl, ?_⟩
      by_cases he : 1 < e
      · rw [decide_eq_true he]
        have bad := k4 _ (kk.1 _ (if_pos ⟨hS, he⟩))
        exact iteT ⟨_, rfl, err_go (K := K) (x := "BadNumber") (fs := ["what", "number"]) (by show 2 ≤ 1000; decide) rfl fun d H' s hd => bad d H' s hd⟩
      · rw [decide_eq_false he]
        refine iteF ?_
        rcases SqA.up hl hp kp4 with hL | hL
        · refine ⟨_, rfl, l, xs, rfl, .inl ⟨hL, fun t ht => ?_⟩⟩
          obtain ⟨t1, t2⟩ := fin (fun z => he z.2) t _ (Same.new (.tup xs) (Same.refl H4) ht) (SqT.of upd_same)
          refine ⟨_, rfl, p, _, dx, _, rfl, t1, T.clL, T.nSt, pl (pl pl0), ?_⟩
          refine ⟨_, rfl, _, rfl, p, _, dx, _, rfl, upd_same, T.clL, T.nSp, pl (pl (pl pl0)), ?_⟩
          exact ⟨_, rfl, _, rfl, p, _, dx, _, rfl, upd_same, T.clL, T.nDn, pl (pl (pl (pl pl0))), t2⟩
        · obtain ⟨t1, t2⟩ := fin (fun z => he z.2) l _ (Same.refl H4) hL
          refine ⟨_, rfl, l, xs, rfl, .inr ⟨hL, ?_⟩⟩
          refine ⟨_, rfl, p, _, dx, _, rfl, t1, T.clL, T.nSt, pl (pl pl0), ?_⟩
          refine ⟨_, rfl, _, rfl, p, _, dx, _, rfl, upd_same, T.clL, T.nSp, pl (pl (pl pl0)), ?_⟩
          exact ⟨_, rfl, _, rfl, p, _, dx, _, rfl, upd_same, T.clL, T.nDn, pl (pl (pl (pl pl0))), t2⟩
    · rw [decide_eq_false hS]
      refine iteF ?_
      rcases SqA.up hl hp kp4 with hL | hL
      · refine ⟨_, rfl, l, xs, rfl, .inl ⟨hL, fun t ht => ?_⟩⟩
        obtain ⟨t1, t2⟩ := fin (fun z => hS z.1) t _ (Same.new (.tup xs) (Same.refl H4) ht) (SqT.of upd_same)
        refine ⟨_, rfl, p, _, dx, _, rfl, t1, T.clL, T.nSt, pl (pl pl0), ?_⟩
        refine ⟨_, rfl, _, rfl, p, _, dx, _, rfl, upd_same, T.clL, T.nSp, pl (pl (pl pl0)), ?_⟩
        exact ⟨_, rfl, _, rfl, p, _, dx, _, rfl, upd_same, T.clL, T.nDn, pl (pl (pl (pl pl0))), t2⟩
      · obtain ⟨t1, t2⟩ := fin (fun z => hS z.1) l _ (Same.refl H4) hL
        refine ⟨_, rfl, l, xs, rfl, .inr ⟨hL, ?_⟩⟩
        refine ⟨_, rfl, p, _, dx, _, rfl, t1, T.clL, T.nSt, pl (pl pl0), ?_⟩
        refine ⟨_, rfl, _, rfl, p, _, dx, _, rfl, upd_same, T.clL, T.nSp, pl (pl (pl pl0)), ?_⟩
        exact ⟨_, rfl, _, rfl, p, _, dx, _, rfl, upd_same, T.clL, T.nDn, pl (pl (pl (pl pl0))), t2⟩
end
end K23

set_option maxHeartbeats 4000000
namespace K23
open PySem PySem.Spec PyProof.Rows L2 Z
/-! ### programs -/
section
variable (K : PySem.W.Frag)
def RdN (H : Hp) (v : V) (y : Str) : Prop := ∃ p dx fs, v = .ref p ∧ H p = some (.ins (CRd K) dx fs) ∧ fs.lookup ("array" : Str) = some (.str y)
def RdNs (H : Hp) (vs : List V) (ys : List Str) : Prop := vs.length = ys.length ∧ ∀ (i : Nat) (v : V) (y : Str), vs[i]? = some v → ys[i]? = some y → RdN K H v y
def StN (H : Hp) (v : V) (m : List Str) : Prop := ∃ p dx fs x r rs ys, v = .ref p ∧ H p = some (.ins (CSt K) dx fs) ∧ fs.lookup ("array" : Str) = some (.str x) ∧ fs.lookup ("reads" : Str) = some (.ref r) ∧ SqT K H r rs ∧ RdNs K H rs ys ∧ m = x :: ys
def StNs (H : Hp) (vs : List V) (ms : List (List Str)) : Prop := vs.length = ms.length ∧ ∀ (i : Nat) (v : V) (m : List Str), vs[i]? = some v → ms[i]? = some m → StN K H v m
def LpN (H : Hp) (v : V) (m : List Str) : Prop := ∃ p dx fs st xs ms, v = .ref p ∧ H p = some (.ins (CL K) dx fs) ∧ fs.lookup ("statements" : Str) = some (.ref st) ∧ SqT K H st xs ∧ StNs K H xs ms ∧ m = ms.flatten
def LpNs (H : Hp) (vs : List V) (ms : List (List Str)) : Prop := vs.length = ms.length ∧ ∀ (i : Nat) (v : V) (m : List Str), vs[i]? = some v → ms[i]? = some m → LpN K H v m
def spArr : Sp := fun vs H Q _ => ∃ (l : Addr) (xs : List V) (ms : List (List Str)), vs = [.ref l] ∧ SqT K H l xs ∧ LpNs K H xs ms ∧ ms.flatten.length ≤ 4000 ∧
  ∀ t ys H', Same H H' → ys.Nodup → (∀ x, x ∈ ys ↔ x ∈ ms.flatten) → sortedS ys = true → SqT K H' t (ys.map V.str) → Q (.ref t) H'
def prf2 (l a : Addr) : List (Str × V) := putF "arrays" (.ref a) (putF "loops" (.ref l) [])
def prf (l a d : Addr) : List (Str × V) := putF "known" (.ref d) (prf2 l a)
def spPrI : Sp := fun vs H Q E => ∃ (p dx l : Addr) (xs : List V) (ms : List (List Str)), vs = [.ref p, .ref l] ∧ H p = some (.ins (CPr K) dx []) ∧ SqA K H l xs ∧ LpNs K H xs ms ∧ ms.flatten.length ≤ 4000 ∧
  Out (ckM "loops" xs.length 6) (RzK K p H E) (∀ (lt at_ dt : Addr) (ys : List Str) (H' : Hp), H' p = some (.ins (CPr K) dx (prf lt at_ dt)) → SqT K H' lt xs → SqT K H' at_ (ys.map V.str) → ys.Nodup → (∀ x, x ∈ ys ↔ x ∈ ms.flatten) → sortedS ys = true → Keep p H H' → Q .non H')
end
theorem zip_at {α : Type} {vs : List V} {ms : List α} (h : vs.length = ms.length) {i : Nat} {v : V} (hv : vs[i]? = some v) : ∃ m, ms[i]? = some m := by
  have hi : i < vs.length := (List.getElem?_eq_some_iff.mp hv).1
  exact ⟨ms[i]'(h ▸ hi), List.getElem?_eq_getElem (h ▸ hi)⟩
theorem flat_take {ms : List (List Str)} {i : Nat} {m : List Str} (h : ms[i]? = some m) : (ms.take (i + 1)).flatten = (ms.take i).flatten ++ m := by
  rw [List.take_add_one, h]
  simp
theorem flat_le {ms : List (List Str)} {i : Nat} : (ms.take i).flatten.length ≤ ms.flatten.length := by
  have e : ms.flatten = (ms.take i).flatten ++ (ms.drop i).flatten := by rw [← List.flatten_append, List.take_append_drop]
  rw [e, List.length_append]
  omega
section
variable {K : PySem.W.Frag} {H H' : Hp}
theorem RdN.same {v : V} {y : Str} (h : RdN K H v y) (s : Same H H') : RdN K H' v y := by
  obtain ⟨p, dx, fs, e, h1, h2⟩ := h
  exact ⟨p, dx, fs, e, s _ _ h1, h2⟩
theorem RdNs.same {vs : List V} {ys : List Str} (h : RdNs K H vs ys) (s : Same H H') : RdNs K H' vs ys := ⟨h.1, fun i v y a b => (h.2 i v y a b).same s⟩
theorem StN.same {v : V} {m : List Str} (h : StN K H v m) (s : Same H H') : StN K H' v m := by
  obtain ⟨p, dx, fs, x, r, rs, ys, e, h1, h2, h3, h4, h5, h6⟩ := h
  exact ⟨p, dx, fs, x, r, rs, ys, e, s _ _ h1, h2, h3, SqT.same h4 s, h5.same s, h6⟩
theorem StNs.same {vs : List V} {ms : List (List Str)} (h : StNs K H vs ms) (s : Same H H') : StNs K H' vs ms := ⟨h.1, fun i v y a b => (h.2 i v y a b).same s⟩
theorem LpN.same {v : V} {m : List Str} (h : LpN K H v m) (s : Same H H') : LpN K H' v m := by
  obtain ⟨p, dx, fs, st, xs, ms, e, h1, h2, h3, h4, h5⟩ := h
  exact ⟨p, dx, fs, st, xs, ms, e, s _ _ h1, h2, SqT.same h3 s, h4.same s, h5⟩
theorem LpNs.same {vs : List V} {ms : List (List Str)} (h : LpNs K H vs ms) (s : Same H H') : LpNs K H' vs ms := ⟨h.1, fun i v y a b => (h.2 i v y a b).same s⟩
variable {p C dx : Addr} {fs : List (Str × V)}
theorem LpNs.up {vs : List V} {ms : List (List Str)} (h : LpNs K H vs ms) (hp : H p = some (.ins C dx fs)) (k : Keep p H H') (n1 : fs.lookup ("statements" : Str) = none) (n2 : fs.lookup ("array" : Str) = none) : LpNs K H' vs ms := by
  have ne : ∀ {q D dy : Addr} {gs : List (Str × V)} {f : Str} {v : V}, H q = some (.ins D dy gs) → gs.lookup f = some v → fs.lookup f = none → q ≠ p := fun h1 h2 h3 z => by
    subst z
    rw [ins_inj hp h1, h2] at h3
    cases h3
  refine ⟨h.1, fun i v m a b => ?_⟩
  obtain ⟨q, dy, gs, st, xs, m2, e, h1, h2, h3, h4, h5⟩ := h.2 i v m a b
  refine ⟨q, dy, gs, st, xs, m2, e, k _ _ (ne h1 h2 n1) h1, h2, SqT.up h3 hp k, ⟨h4.1, fun i v m a b => ?_⟩, h5⟩
  obtain ⟨q, dy, gs, x, r, rs, ys, e, h1, h2, h3, h4, h5, h6⟩ := h4.2 i v m a b
  refine ⟨q, dy, gs, x, r, rs, ys, e, k _ _ (ne h1 h2 n2) h1, h2, h3, SqT.up h4 hp k, ⟨h5.1, fun i v y a b => ?_⟩, h6⟩
  obtain ⟨q, dy, gs, e, h1, h2⟩ := h5.2 i v y a b
  exact ⟨q, dy, gs, e, k _ _ (ne h1 h2 n2) h1, h2⟩
end
section
variable {P : Program} {w : World} {K : PySem.W.Frag} {mg : Str → Option Value} {base : Heap}
theorem sc_arrays_in : FnScope ["loops", "names", "loop", "statement", "read"] ["loops"] (defScope s_arrays_in) := ⟨rfl, rfl, rfl, by decide +kernel, rfl, by decide +kernel, by decide +kernel⟩
theorem ok_arr {f : Addr} {fd : FuncData} (F : FnP K "arrays_in" s_arrays_in f fd) (T : PrTx K mg) : FnOk P w K mg base CX0 1 f fd ["loops"] (spArr K) := by
  refine F.ok sc_arrays_in (fun vs H Q E h => ?_) (fun cdv A outer s H vs Q E hr h => ?_)
  · obtain ⟨l, xs, ms, rfl, _⟩ := h
    rfl
  · obtain ⟨l, xs, ms, rfl, hl, hms, hfew, k⟩ := h
    refine ⟨_, PSs.nox (pss_cons (ps_set (i := 1) sc_arrays_in.nd rfl (Or.inl rfl) (pe_lst pa_nil))
      (pss_cons (ps_for PassesOwn.never rfl (pi_tup (pv 0)) (pg_name (i := 2) sc_arrays_in.nd rfl (.inl rfl)) (pss_one (ps_for PassesOwn.never rfl (pi_tup (pe_fld (pv 2) rfl)) (pg_name (i := 3) sc_arrays_in.nd rfl (.inl rfl)) (pss_cons (ps_expr (pe_bm PySem.F.plainAttrs_list PySem.F.slot_list_append PySem.F.type_list_append mt_append (pv 1) (pa_cons (pe_fld (pv 3) rfl) pa_nil)))
      (pss_one (ps_expr (pe_bm PySem.F.plainAttrs_list PySem.F.slot_list_extend PySem.F.type_list_extend mt_extend (pv 1) (pa_cons (pe_lc (own := [("read", 4)]) (g := gName 4) (tt := tYes) rfl sc_arrays_in.nd (pi_tup (pe_fld (pv 3) rfl)) (blkOk_by (N := ["loops", "names", "loop", "statement", "read"]) (sc := defScope s_arrays_in) (by decide +kernel)) (fun _ _ _ _ _ => (pg_name (i := 4) sc_arrays_in.nd rfl (.inl rfl))) (fun _ _ _ _ _ => pts_nil) (fun _ _ _ _ _ => (pe_fldK (K := K) rfl (pv 4)))) pa_nil))))))))
      (pss_one (ps_ret (pe_callTy call_tuple_of (by rfl) T.tuple (by decide +kernel) (pa_cons (pe_callB (cr_sortedTx rfl) (by rfl) T.sorted (by decide +kernel) (pa_cons (pe_callTy (cr_setTx rfl) (by rfl) T.set (by decide +kernel) (pa_cons (pv 1) pa_nil)) pa_nil)) pa_nil)))))), ?_⟩
    refine ⟨Nat.zero_le _, fun N hN => ?_⟩
    have sN : Same H (upd H N (.lst [])) := Same.new _ (Same.refl H) hN
    have szl : 5000 ≤ sizeLine := by show 5000 ≤ sizeLine; decide
    have nN : ∀ {Hc : Hp}, (∀ b o, H b = some o → Hc b = some o) → ∀ o', ∀ b o, H b = some o → (upd Hc N o') b = some o := fun hk o' b o e => by
      rw [upd_ne (ne_of_none e hN)]
      exact hk b o e
    refine ⟨_, rfl, l, rfl, ⟨_, SqT.same hl sN⟩, for_tup (xs := xs) (fun i σ Hc => ∃ v2 v3 : Option V, σ = [some (.ref l), some (.ref N), v2, v3, none] ∧ Hc N = some (.lst ((ms.take i).flatten.map V.str)) ∧ ∀ b o, H b = some o → Hc b = some o) ⟨_, _, rfl, upd_same, sN⟩ (fun i σ Hc _ ⟨_, _, _, _, s⟩ => SqT.same hl s) ?_ ?_⟩
    · rintro i v σ Hc hv ⟨v2, v3, rfl, hN1, s1⟩
      obtain ⟨m, hm⟩ := zip_at hms.1 hv
      obtain ⟨p, dx, fs, st, ss, m2, rfl, h1, h2, h3, h4, h5⟩ := (hms.2 i v m hv hm).same s1
      refine normG (σ' := [some (.ref l), some (.ref N), some (.ref p), v3, none]) rfl ?_
      refine ⟨_, rfl, p, _, dx, _, _, rfl, h1, T.clL, T.nSt, h2, st, rfl, ⟨_, h3⟩, ?_⟩
      have tot : (ms.take i).flatten.length + m.length ≤ 4000 := by
        have e := flat_take hm
        have q := flat_le (ms := ms) (i := i + 1)
        rw [e, List.length_append] at q
        omega
      refine for_tup (xs := ss) (fun j σ Hd => ∃ v3 : Option V, σ = [some (.ref l), some (.ref N), some (.ref p), v3, none] ∧ Hd N = some (.lst (((ms.take i).flatten ++ (m2.take j).flatten).map V.str)) ∧ (∀ b o, H b = some o → Hd b = some o) ∧ SqT K Hd st ss ∧ StNs K Hd ss m2) ⟨_, rfl, by simpa using hN1, s1, h3, h4⟩ (fun j σ Hd _ ⟨_, _, _, _, z, _⟩ => z) ?_ ?_
      · rintro j v σ Hd hv2 ⟨v3, rfl, hN2, s2, hst, hsn⟩
        obtain ⟨m3, hm3⟩ := zip_at hsn.1 hv2
        obtain ⟨q, dq, gs, x, r, rs, ys, rfl, g1, g2, g3, g4, g5, g6⟩ := hsn.2 j v m3 hv2 hm3
        have tot2 : (ms.take i).flatten.length + ((m2.take j).flatten.length + m3.length) ≤ 4000 := by
          have e := flat_take hm3
          have z := flat_le (ms := m2) (i := j + 1)
          rw [e, List.length_append] at z
          rw [h5] at tot
          omega
        have l3 : m3.length = 1 + rs.length := by rw [g6, g5.1, List.length_cons]; omega
        refine normG (σ' := [some (.ref l), some (.ref N), some (.ref p), some (.ref q), none]) rfl ?_
        have noN : ∀ {C d : Addr} {fs : List (Str × V)} {b : Addr}, Hd b = some (.ins C d fs) → b ≠ N := fun e z => by
          rw [z, hN2] at e
          cases e
        refine ⟨_, rfl, .inl ⟨rfl, _, SqL.of hN2⟩, _, rfl, q, _, dq, _, _, rfl, g1, T.clM, T.nMA, g2, N, _, _, rfl, rfl, hN2, ?_, ?_⟩
        · rw [List.length_map, List.length_append]
          omega
        obtain ⟨He, eHe⟩ : ∃ L, L = upd Hd N (.lst (((ms.take i).flatten ++ (m2.take j).flatten).map V.str ++ [.str x])) := ⟨_, rfl⟩
        have kE : ∀ b o, b ≠ N → Hd b = some o → He b = some o := fun b o nb e => by rw [eHe, upd_ne nb]; exact e
        have hNE : He N = some (.lst (((ms.take i).flatten ++ (m2.take j).flatten).map V.str ++ [.str x])) := by rw [eHe]; exact upd_same
        rw [← eHe]
        have upT : ∀ {b : Addr} {zs : List V} {Ha Hb : Hp} {ws : List V}, Ha N = some (.lst ws) → (∀ b o, b ≠ N → Ha b = some o → Hb b = some o) → SqT K Ha b zs → SqT K Hb b zs := fun hw kk hz => hz.imp (fun z => z.imp (fun z => kk _ _ (fun y => by
          rw [y, hw] at z
          cases z) z) fun ⟨o, z⟩ => ⟨o, kk _ _ (fun y => by
          rw [y, hw] at z
          cases z) z⟩) id
        have upN : ∀ {Ha Hb : Hp} {ws : List V}, Ha N = some (.lst ws) → (∀ b o, b ≠ N → Ha b = some o → Hb b = some o) → StNs K Ha ss m2 → StNs K Hb ss m2 := fun {Ha Hb ws} hw kk z => ⟨z.1, fun i v m a b => by
          have no : ∀ {C d : Addr} {fs : List (Str × V)} {b : Addr}, Ha b = some (.ins C d fs) → b ≠ N := fun e y => by
            rw [y, hw] at e
            cases e
          obtain ⟨q, dq, gs, x, r, rs, ys, e, g1, g2, g3, g4, g5, g6⟩ := z.2 i v m a b
          refine ⟨q, dq, gs, x, r, rs, ys, e, kk _ _ (no g1) g1, g2, g3, upT hw kk g4, ⟨g5.1, fun i v y a b => ?_⟩, g6⟩
          obtain ⟨q, dq, gs, e, g1, g2⟩ := g5.2 i v y a b
          exact ⟨q, dq, gs, e, kk _ _ (no g1) g1, g2⟩⟩
        have g1E := kE _ _ (noN g1) g1
        have g4E := upT hN2 kE g4
        have stE := upT hN2 kE hst
        have snE := upN hN2 kE hsn
        have g5E : RdNs K He rs ys := ⟨g5.1, fun i v y a b => by
          obtain ⟨q, dq, gs, e, g1, g2⟩ := g5.2 i v y a b
          exact ⟨q, dq, gs, e, kE _ _ (noN g1) g1, g2⟩⟩
        have sE : ∀ b o, H b = some o → He b = some o := fun b o e => kE b o (ne_of_none e hN) (s2 b o e)
        refine ⟨_, rfl, .inl ⟨rfl, _, SqL.of hNE⟩, _, rfl, q, _, dq, _, _, rfl, g1E, T.clM, T.nMR, g3, r, rfl, ⟨_, g4E⟩, fun D hD => ?_⟩
        have sD := Same.new (.lst []) (Same.refl He) hD
        refine lc_tup (xs := rs) (fun n Hf => Hf D = some (.lst ((ys.take n).map V.str)) ∧ ∀ b o, He b = some o → Hf b = some o) ⟨upd_same, sD⟩ (fun n Hf _ z => SqT.same g4E z.2) ?_ ?_
        · rintro n v Hf hv3 ⟨hD1, kF⟩
          obtain ⟨y, hy⟩ := zip_at g5E.1 hv3
          obtain ⟨u, du, us, rfl, u1, u2⟩ := g5E.2 n v y hv3 hy
          refine ⟨rfl, yes_of ?_⟩
          refine ⟨_, rfl, u, _, du, _, _, rfl, kF _ _ u1, T.clR, T.nRA, u2, _, hD1, ?_, ?_, fun b o e => ?_⟩
          · rw [List.length_map, List.length_take]
            have := g5.1
            omega
          · rw [upd_same, List.take_add_one, hy]
            simp
          · rw [upd_ne (ne_of_none e hD)]
            exact kF b o e
        · rintro Hf ⟨hD1, kF⟩
          rw [g5E.1, List.take_length] at hD1
          have hNF := kF _ _ hNE
          refine ⟨N, D, _, _, rfl, rfl, hNF, hD1, ?_, ?_⟩
          · rw [List.length_append, List.length_map, List.length_map, List.length_append, List.length_singleton]
            have := g5.1
            omega
          have kG : ∀ b o, b ≠ N → Hf b = some o → (upd Hf N (.lst (((ms.take i).flatten ++ (m2.take j).flatten).map V.str ++ [.str x] ++ ys.map V.str))) b = some o := fun b o nb e => by rw [upd_ne nb]; exact e
          refine ⟨_, rfl, ?_, fun b o e => kG b o (ne_of_none e hN) (kF _ _ (sE _ _ e)), upT hNF kG (SqT.same stE kF), upN hNF kG (snE.same kF)⟩
          rw [upd_same, flat_take hm3, g6]
          simp
      · rintro σ Hd ⟨v3, rfl, hN2, s2, _, hsn⟩
        refine ⟨_, _, rfl, ?_, s2⟩
        rw [hsn.1, List.take_length, ← h5] at hN2
        rw [flat_take hm]
        exact hN2
    · rintro σ Hc ⟨v2, v3, rfl, hN1, s1⟩
      rw [hms.1, List.take_length] at hN1
      refine ⟨_, rfl, N, _, rfl, SqL.of hN1, by show _ < 4096; omega, fun a ha => ?_⟩
      have s2 := Same.new (TxO w a ms.flatten.reverse) (Same.refl Hc) ha
      refine ⟨a, _, rfl, upd_same, by rw [List.length_reverse]; omega, fun ys p nd mem srt hp => ?_⟩
      refine ⟨p, _, rfl, .inl ⟨SqL.of upd_same, fun t ht => ?_⟩⟩
      refine k t ys _ (Same.new _ (Same.new _ (Same.new _ s1 ha) hp) ht) nd (fun x => by rw [mem x, List.mem_reverse]) srt (SqT.of upd_same)
theorem scProgram__init__ : FnScope ["self", "loops"] ["self", "loops"] (defScope iProgram__init__) := ⟨rfl, rfl, rfl, by decide +kernel, rfl, by decide +kernel, by decide +kernel⟩
theorem ok_PrI {fd : FuncData} {kws : List (Str × V)} (F : FunD K "__init__" "Program.__init__" (defArgs iProgram__init__) (defBody iProgram__init__) (defScope iProgram__init__) [] kws (He.ma K (CPr K) "__init__") fd) (T : PrTx K mg)
    (dCkM : Dx P w K mg base 3 "check_many" ["what", "things", "most"] (spCkM K)) (dArrays : Dn P w K mg base 1 "arrays_in" ["loops"] (spArr K)) :
    FnOk P w K mg base (L2.CX P w) 4 (He.ma K (CPr K) "__init__") fd ["self", "loops"] (spPrI K) := by
  refine F.ok scProgram__init__ (fun vs H Q E h => ?_) (fun cdv A outer s H vs Q E hr h => ?_)
  · obtain ⟨p, dx, l, xs, ms, rfl, _⟩ := h
    rfl
  · obtain ⟨p, dx, l, xs, ms, rfl, hp, hl, hms, few, kk⟩ := h
    obtain ⟨tMOST_LOOPS, hMOST_LOOPS⟩ := T.con ("MOST_LOOPS", 6) (by simp)
    refine ⟨_, (pss_cons (ps_expr (pe_dx (K := K) dCkM rfl hr (fun σ => passAt (takes_of rfl rfl rfl rfl) σ) (pa_cons pe_str (pa_cons (pv 1) (pa_cons (pe_glob (v := .int 6) rfl hMOST_LOOPS ⟨tMOST_LOOPS, rfl⟩) pa_nil)))))
      (pss_cons (ps_fld (pv 0) (pe_callTy call_tuple_of (by rfl) T.tuple (by decide +kernel) (pa_cons (pv 1) pa_nil)) rfl)
      (pss_cons (ps_fld (pv 0) (pe_dn dArrays hr (pa_cons (pe_fld (pv 0) rfl) pa_nil)) rfl)
      (pss_one (ps_fld (pv 0) pe_dnewK rfl))))), ?_⟩
    refine ⟨_, rfl, _, _, _, _, rfl, hl, Out.end_ kk (fun e z => z.rz (Keep.ofSame (Same.refl H))) fun kk => ?_⟩
    have tail : ∀ (lt : Addr) (H1 : Hp), Same H H1 → SqT K H1 lt xs → H1 p = some (.ins (CPr K) dx []) ∧ SqT K (upd H1 p (.ins (CPr K) dx (putF "loops" (.ref lt) []))) lt xs ∧ LpNs K (upd H1 p (.ins (CPr K) dx (putF "loops" (.ref lt) []))) xs ms ∧
        ∀ (t : Addr) (ys : List Str) (H' : Hp), Same (upd H1 p (.ins (CPr K) dx (putF "loops" (.ref lt) []))) H' → ys.Nodup → (∀ x, x ∈ ys ↔ x ∈ ms.flatten) → sortedS ys = true → SqT K H' t (ys.map V.str) →
          H' p = some (.ins (CPr K) dx (putF "loops" (.ref lt) [])) ∧ ∀ d, (upd H' p (.ins (CPr K) dx (prf2 lt t))) d = none → (upd (upd H' p (.ins (CPr K) dx (prf2 lt t))) d (.dK [])) p = some (.ins (CPr K) dx (prf2 lt t)) ∧ Q .non (upd (upd (upd H' p (.ins (CPr K) dx (prf2 lt t))) d (.dK [])) p (.ins (CPr K) dx (prf lt t d))) := by
      intro lt H1 s1 hlt
      have hp1 := s1 _ _ hp
      have k1 : Keep p H1 (upd H1 p (.ins (CPr K) dx (putF "loops" (.ref lt) []))) := keep_upd1
      refine ⟨hp1, SqT.up hlt hp1 k1, (hms.same s1).up hp1 k1 rfl rfl, fun t ys H' s2 nd mem srt ht => ?_⟩
      have hp2 := s2 _ _ upd_same
      refine ⟨hp2, fun d hd => ?_⟩
      have k2 : Keep p H' (upd H' p (.ins (CPr K) dx (prf2 lt t))) := keep_upd1
      have s3 := Same.new (.dK []) (Same.refl (upd H' p (.ins (CPr K) dx (prf2 lt t)))) hd
      have hp3 : (upd (upd H' p (.ins (CPr K) dx (prf2 lt t))) d (.dK [])) p = some (.ins (CPr K) dx (prf2 lt t)) := s3 _ _ upd_same
      have k4 : Keep p (upd (upd H' p (.ins (CPr K) dx (prf2 lt t))) d (.dK [])) (upd (upd (upd H' p (.ins (CPr K) dx (prf2 lt t))) d (.dK [])) p (.ins (CPr K) dx (prf lt t d))) := keep_upd1
      refine ⟨hp3, kk lt t d ys _ upd_same (SqT.up (SqT.same (SqT.up (SqT.same (SqT.up hlt hp1 k1) s2) hp2 k2) s3) hp3 k4) (SqT.up (SqT.same (SqT.up ht hp2 k2) s3) hp3 k4) nd mem srt ?_⟩
      exact keep_trans2 (keep_trans (keep_trans2 (keep_trans (keep_trans2 (Keep.ofSame s1) k1) s2) k2) s3) k4
    rcases hl with hL | hL
    · refine ⟨_, rfl, l, xs, rfl, .inl ⟨hL, fun lt hlt => ?_⟩⟩
      obtain ⟨t1, t2, t3, t4⟩ := tail lt _ (Same.new (.tup xs) (Same.refl H) hlt) (SqT.of upd_same)
      refine ⟨_, rfl, p, _, dx, _, rfl, t1, T.clP, T.nPL, pl0, ?_⟩
      refine ⟨_, rfl, p, _, dx, _, _, rfl, upd_same, T.clP, T.nPL, (by rw [lookup_putF, if_pos rfl]), lt, xs, ms, rfl, t2, t3, few, fun t ys H' s nd mem srt ht => ?_⟩
      obtain ⟨t5, t6⟩ := t4 t ys H' s nd mem srt ht
      refine ⟨_, rfl, p, _, dx, _, rfl, t5, T.clP, T.nPA, pl pl0, ?_⟩
      intro d hd
      obtain ⟨t7, t8⟩ := t6 d hd
      exact ⟨_, rfl, p, _, dx, _, rfl, t7, T.clP, T.nPK, pl (pl pl0), t8⟩
    · obtain ⟨t1, t2, t3, t4⟩ := tail l _ (Same.refl H) hL
      refine ⟨_, rfl, l, xs, rfl, .inr ⟨hL, ?_⟩⟩
      refine ⟨_, rfl, p, _, dx, _, rfl, t1, T.clP, T.nPL, pl0, ?_⟩
      refine ⟨_, rfl, p, _, dx, _, _, rfl, upd_same, T.clP, T.nPL, (by rw [lookup_putF, if_pos rfl]), l, xs, ms, rfl, t2, t3, few, fun t ys H' s nd mem srt ht => ?_⟩
      obtain ⟨t5, t6⟩ := t4 t ys H' s nd mem srt ht
      refine ⟨_, rfl, p, _, dx, _, rfl, t5, T.clP, T.nPA, pl pl0, ?_⟩
      intro d hd
      obtain ⟨t7, t8⟩ := t6 d hd
      exact ⟨_, rfl, p, _, dx, _, rfl, t7, T.clP, T.nPK, pl (pl pl0), t8⟩
end
end K23

set_option maxHeartbeats 4000000
namespace Z
open PySem PySem.Spec PyProof.Rows L2
section
variable {X : Cx} {K : PySem.W.Frag} {k j n : Nat} {f C : Addr} {fd : FuncData} {ps ks : List Str} {sp : Sp} {E : L2.St → XK} {x : Str} {p pos : Pos} {e : Expr} {es : List Expr} {kws : List Keyword} {t tk : TA} {g : List Value → List Value → List Value} {gV : List V → List V → List V}
/-- C(e, ..) with the promise of __init__ in another form -/
theorem pe_mkR {R : List V → Hp → VK → XK → Prop} {dvs : List V} {ds : List Value} (M : Mc X.prog X.w K X.mg X.base j x f fd ps sp) (hK : X.K = K) (hb : Binds K fd ps ds) (hd : Vals dvs ds)
    (of : ∀ {vs H Q E y dx}, R vs H Q E → H y = none → H dx = none → dx ≠ y → sp (.ref y :: (vs ++ dvs)) (upd (upd H dx (.own y)) y (.ins (He.ga K x) dx [])) (fun v H2 => v = .non ∧ Q (.ref y) H2) E)
    (hr : Room k X.A) (hx : ∀ σ, PassesAt (L2.CX X.prog X.w) X σ (E σ)) (ha : PA X (e :: es) t) (hjk : j + 1 ≤ k) (hg : Gl X x)
    (hdb : (x == ("__debug__" : Str)) = false) (he : starEach (e :: es) X.env = (false, eval e X.env) :: starEach es X.env) (hpl : (backTo pos (starEach es X.env)).any (·.1) = false) :
    PE X (.Call (.Name x p) (e :: es) [] pos) (fun σ H Q => t σ H fun vs H1 => R vs H1 Q (E σ)) := by
  subst hK
  refine ⟨fun pins s σ H Q I h => ?_⟩
  refine wpAny_Call_Name_kw (ld_glob I hg M.gC ?_ hdb)
  refine PySem.W.callWith_K (h₀ := X.base) I.ok.mod.kin M.mK.kp (thn (ha.run pos pins s σ H _ I h) fun us s1 ⟨vs, H1, I1, r, q⟩ => ⟨I1.kIn, ?_⟩) he hpl
  have q0 := of q (I1.hok.fresh (Nat.le_succ _)) (I1.hok.fresh (Nat.le_refl _)) (Nat.ne_of_lt (Nat.lt_succ_self _))
  have len : ∀ a : Addr, (Value.ref a :: us ++ ds).length = ps.length := fun a => by
    have e := M.fn.len _ _ _ _ q0
    have l1 := r.length
    have l2 := hd.length
    simp only [List.length_cons, List.length_append] at e ⊢
    omega
  exact make_run M.mK M.fn (hr.mono hjk) (hx σ) I1 (fun a => .cons rfl (r.append hd)) (fun s' a k => hb s' (Value.ref a :: us) k (len a)) fun y dx ny nd ne => of q ny nd ne
/-- C(e, .., k = v, ..) likewise -/
theorem pe_mkRK {R : List V → List V → Hp → VK → XK → Prop} (M : Mc X.prog X.w K X.mg X.base j x f fd ps sp) (hK : X.K = K) (hb : KBn K fd ps (n + 1) ks g gV)
    (of : ∀ {vs zs H Q E}, R vs zs H Q E → vs.length = n ∧ zs.length = ks.length ∧ ∀ y dx, H y = none → H dx = none → dx ≠ y → sp (gV (.ref y :: vs) zs) (upd (upd H dx (.own y)) y (.ins (He.ga K x) dx [])) (fun v H2 => v = .non ∧ Q (.ref y) H2) E)
    (hr : Room k X.A) (hx : ∀ σ, PassesAt (L2.CX X.prog X.w) X σ (E σ)) (ha : PA X (e :: es) t) (hkw : PK X kws tk) (hjk : j + 1 ≤ k) (hg : Gl X x)
    (hall : (backToKw pos (keywordEach kws X.env)).all (·.1.isSome) = true) (hks : (backToKw pos (keywordEach kws X.env)).filterMap (·.1) = ks) (hdb : (x == ("__debug__" : Str)) = false)
    (he : starEach (e :: es) X.env = (false, eval e X.env) :: starEach es X.env) (hpl : ((backTo pos (starEach (e :: es) X.env)).any (·.1) || (backToKw pos (keywordEach kws X.env)).any (·.1.isNone)) = false) :
    PE X (.Call (.Name x p) (e :: es) kws pos) (fun σ H Q => t σ H fun vs H1 => tk σ H1 fun zs H2 => R vs zs H2 Q (E σ)) := by
  subst hK
  refine ⟨fun pins s σ H Q I h => ?_⟩
  refine wpAny_Call_Name_kw (ld_glob I hg M.gC ?_ hdb)
  refine PySem.W.callWith_KW (h₀ := X.base) I.ok.mod.kin M.mK.kp hall (thn (ha.run pos pins s σ H _ I h) fun us s1 ⟨vs, H1, I1, r, q⟩ => ?_) hpl he
  refine thn (hkw.run pos pins s1 σ H1 _ I1 q) fun ws s2 ⟨zs, H2, I2, rz, q2⟩ => ⟨I2.kIn, ?_⟩
  obtain ⟨l1, l2, q3⟩ := of q2
  rw [hks]
  have q0 := q3 (s2.heap.objs.size + 1) s2.heap.objs.size (I2.hok.fresh (Nat.le_succ _)) (I2.hok.fresh (Nat.le_refl _)) (Nat.ne_of_lt (Nat.lt_succ_self _))
  have I3 := Inv.made (C := He.ga X.K x) I2
  have r1 : Vals (V.ref (s2.heap.objs.size + 1) :: vs) (Value.ref (s2.heap.objs.size + 1) :: us) := .cons rfl r
  have r2 := hb.rel r1 rz
  have n1 : (Value.ref (s2.heap.objs.size + 1) :: us).length = n + 1 := by rw [List.length_cons, ← r.length, l1]
  refine wpAny_call (make_map (f := f) I2.kIn M.mK.makes M.mK.init (beq_iff_eq.mp M.mK.fn) (codeAny_mono (M.fn.run _ X.stack _ _ ⟨Value.ref (s2.heap.objs.size + 1) :: us, ks.zip ws⟩ (g (Value.ref (s2.heap.objs.size + 1) :: us) ws) _ _ (E σ) ((hr.mono hjk).make _ us (ks.zip ws))
    (I3.env0.make _ us (ks.zip ws)) (hb.to _ (Value.ref (s2.heap.objs.size + 1) :: us) ws I3.kIn n1 (rz.length.symm.trans l2)) r2 q0) fun r' s' z => ?_))
  cases r' with
  | error e => exact hx σ pins _ _ e s' I3 z
  | ok fl =>
    cases fl with
    | ret u =>
      obtain ⟨v, H', I4, rv, ev, q3⟩ := I3.after z
      subst ev
      exact ⟨rv, ⟨V.ref (s2.heap.objs.size + 1), H', I4, rfl, q3⟩⟩
    | next => exact False.elim z
    | brk => exact False.elim z
    | cont => exact False.elim z
end
end Z

set_option maxHeartbeats 4000000
namespace K23
open PySem PySem.Spec PyProof.Rows L2 Z
/-! ### making them -/
abbrev rps : List Str := ["self", "array", "place", "factor"]
abbrev sps : List Str := ["self", "array", "cell", "constant", "reads", "conditions"]
abbrev lps : List Str := ["self", "low", "high", "statements", "step", "down"]
section
variable (P : Program) (w : World) (K : PySem.W.Frag) (mg : Str → Option Value) (base : Heap)
def MkRd : Prop := ∃ f fd, Mc P w K mg base 7 "Read" f fd rps (spRdI K) ∧ (∃ ds, Vals [.int 1] ds ∧ Binds K fd rps ds) ∧ KBn K fd rps 3 ["factor"] (fun us ws => us ++ ws) (fun vs zs => vs ++ zs)
def MkSt : Prop := ∃ f fd, ∃ r0 g0 : Addr, Mc P w K mg base 5 "Statement" f fd sps (spStI K) ∧ (∃ ds, Vals [.ref r0, .ref g0] ds ∧ Binds K fd sps ds) ∧ KBn K fd sps 4 ["reads", "conditions"] (fun us ws => us ++ ws) (fun vs zs => vs ++ zs) ∧
  (∃ mv, KBn K fd sps 4 ["conditions"] (fun us ws => us ++ (mv ++ ws)) (fun vs zs => vs ++ ([.ref r0] ++ zs))) ∧ ∀ H : Hp, SqT K H r0 [] ∧ SqT K H g0 []
def MkLp : Prop := ∃ f fd, Mc P w K mg base 7 "Loop" f fd lps (spLpI K) ∧ (∃ ds, Vals [.int 1, .bl false] ds ∧ Binds K fd lps ds) ∧ ∃ mv, KBn K fd lps 4 ["step"] (fun us ws => us ++ (ws ++ mv)) (fun vs zs => vs ++ (zs ++ [.bl false]))
def MkPr : Prop := ∃ f fd, Mc P w K mg base 4 "Program" f fd ["self", "loops"] (spPrI K) ∧ Binds K fd ["self", "loops"] []
end
section
variable {P : Program} {w : World} {K : PySem.W.Frag} {mg : Str → Option Value} {base : Heap} {f : Addr} {fd : FuncData}
theorem mk_Rd (F : FunD K "__init__" "Read.__init__" (defArgs iRead__init__) (defBody iRead__init__) (defScope iRead__init__) [] [("factor", .int 1)] f fd) (M : Mc P w K mg base 7 "Read" f fd rps (spRdI K)) : MkRd P w K mg base := by
  obtain ⟨mv, kb⟩ := FunD.kbinds0 (ps := rps) F 3 ["factor"] [] (fun us _ ws => us ++ ws) (by simp) (by simp) (fun r1 _ r2 => r1.append r2)
    (fun D doc pm an cdv ct us mv ws l1 l2 l3 => match us, mv, ws, l1, l2, l3 with | [_, _, _], [], [_], _, _, _ => rfl)
  obtain ⟨ds, v, b⟩ := FunD.binds0 (ps := rps) F 3 (by simp) rfl
    (fun D doc pm an cdv ct us ks l1 l2 => match us, ks, l1, l2 with | [_, _, _], [_], _, _ => ⟨_, _, _, _, _, _, rfl, rfl, rfl⟩)
  exact ⟨f, fd, M, ⟨ds, v, b⟩, kb⟩
theorem mk_St {r0 g0 : Addr} (F : FunD K "__init__" "Statement.__init__" (defArgs iStatement__init__) (defBody iStatement__init__) (defScope iStatement__init__) [] [("reads", .ref r0), ("conditions", .ref g0)] f fd) (M : Mc P w K mg base 5 "Statement" f fd sps (spStI K))
    (h : ∀ H : Hp, SqT K H r0 [] ∧ SqT K H g0 []) : MkSt P w K mg base := by
  obtain ⟨mv, kb⟩ := FunD.kbinds0 (ps := sps) F 4 ["reads", "conditions"] [] (fun us _ ws => us ++ ws) (by simp) (by simp) (fun r1 _ r2 => r1.append r2)
    (fun D doc pm an cdv ct us mv ws l1 l2 l3 => match us, mv, ws, l1, l2, l3 with | [_, _, _, _], [], [_, _], _, _, _ => rfl)
  obtain ⟨mv2, kb2⟩ := FunD.kbinds0 (ps := sps) F 4 ["conditions"] [("reads", .ref r0)] (fun us mz ws => us ++ (mz ++ ws)) (by simp) (by simp) (fun r1 r2 r3 => r1.append (r2.append r3))
    (fun D doc pm an cdv ct us mv ws l1 l2 l3 => match us, mv, ws, l1, l2, l3 with | [_, _, _, _], [_], [_], _, _, _ => ⟨_, _, _, _, _, _, rfl, rfl, rfl⟩)
  obtain ⟨ds, v, b⟩ := FunD.binds0 (ps := sps) F 4 (by simp) rfl
    (fun D doc pm an cdv ct us ks l1 l2 => match us, ks, l1, l2 with | [_, _, _, _], [_, _], _, _ => ⟨_, _, _, _, _, _, rfl, rfl, _, _, _, _, _, _, rfl, rfl, rfl⟩)
  exact ⟨f, fd, r0, g0, M, ⟨ds, v, b⟩, kb, ⟨mv2, kb2⟩, h⟩
theorem mk_Lp (F : FunD K "__init__" "Loop.__init__" (defArgs iLoop__init__) (defBody iLoop__init__) (defScope iLoop__init__) [] [("step", .int 1), ("down", .bl false)] f fd) (M : Mc P w K mg base 7 "Loop" f fd lps (spLpI K)) : MkLp P w K mg base := by
  obtain ⟨mv, kb⟩ := FunD.kbinds0 (ps := lps) F 4 ["step"] [("down", .bl false)] (fun us mz ws => us ++ (ws ++ mz)) (by simp) (by simp) (fun r1 r2 r3 => r1.append (r3.append r2))
    (fun D doc pm an cdv ct us mv ws l1 l2 l3 => match us, mv, ws, l1, l2, l3 with | [_, _, _, _], [_], [_], _, _, _ => ⟨_, _, _, _, _, _, rfl, rfl, rfl⟩)
  obtain ⟨ds, v, b⟩ := FunD.binds0 (ps := lps) F 4 (by simp) rfl
    (fun D doc pm an cdv ct us ks l1 l2 => match us, ks, l1, l2 with | [_, _, _, _], [_, _], _, _ => ⟨_, _, _, _, _, _, rfl, rfl, _, _, _, _, _, _, rfl, rfl, rfl⟩)
  exact ⟨f, fd, M, ⟨ds, v, b⟩, ⟨mv, kb⟩⟩
end
section
variable (K : PySem.W.Frag)
def rRd (ws : List V) (H : Hp) (Q : VK) (E : XK) : Prop := ∃ (x : Str) (v : V) (f a b c d : Int), ws = [.str x, v, .int f] ∧ x.length ≤ 1000 ∧ PlV K H v a b c d ∧ Out (ckRead x f a b c d) (Rz K H E) (∀ p H', Same H H' → RdAt K H' p x a b c d f → Q (.ref p) H')
def rSt (ws : List V) (H : Hp) (Q : VK) (E : XK) : Prop := ∃ (x : Str) (v : V) (k : Int) (lr lc : Addr) (rs cs : List V) (cc : List (Int × Int × Int)) (a b c : Int), ws = [.str x, v, .int k, .ref lr, .ref lc] ∧ x.length ≤ 1000 ∧ SumV K H v a b c ∧
  SqA K H lr rs ∧ SqA K H lc cs ∧ Cnds K H cs cc ∧ Out (ckStm rs.length cs.length x cc a b c k) (Rz K H E) (∀ p H', Same H H' → StmAt K H' p x a b c k rs cs → Q (.ref p) H')
def rLp (ws : List V) (H : Hp) (Q : VK) (E : XK) : Prop := ∃ (v1 v2 : V) (l : Addr) (xs : List V) (t u : P4) (S : Int) (dn : Bool), ws = [v1, v2, .ref l, .int S, .bl dn] ∧ PlV K H v1 t.1 t.2.1 t.2.2.1 t.2.2.2 ∧ PlV K H v2 u.1 u.2.1 u.2.2.1 u.2.2.2 ∧ SqA K H l xs ∧
  Out (ckLp xs.length S t u) (Rz K H E) (∀ p H', Same H H' → LpAt K H' p t u S dn xs → Q (.ref p) H')
def PrAt (H : Hp) (p : Addr) (xs : List V) (ys : List Str) : Prop := ∃ dx l a d, H p = some (.ins (CPr K) dx (prf l a d)) ∧ SqT K H l xs ∧ SqT K H a (ys.map V.str)
def rPr (ws : List V) (H : Hp) (Q : VK) (E : XK) : Prop := ∃ (l : Addr) (xs : List V) (ms : List (List Str)), ws = [.ref l] ∧ SqA K H l xs ∧ LpNs K H xs ms ∧ ms.flatten.length ≤ 4000 ∧
  Out (ckM "loops" xs.length 6) (Rz K H E) (∀ p ys H', Same H H' → PrAt K H' p xs ys → ys.Nodup → (∀ x, x ∈ ys ↔ x ∈ ms.flatten) → sortedS ys = true → Q (.ref p) H')
end
section
variable {K : PySem.W.Frag} {H : Hp} {Q : VK} {E : XK} {p dx C : Addr}
theorem new_same (np : H p = none) (nd : H dx = none) (ne : dx ≠ p) : Same H (upd (upd H dx (.own p)) p (.ins C dx [])) := Same.new _ (Same.new _ (Same.refl H) nd) (by rw [upd_ne (Ne.symm ne)]; exact np)
theorem rz_new {e : Er} (np : H p = none) (nd : H dx = none) (h : Rz K H E e) : RzK K p (upd (upd H dx (.own p)) p (.ins C dx [])) E e := fun d H' k hd => h d H' (Same.made (Same.refl H) np nd k) hd
theorem rRd_of {ws : List V} (h : rRd K ws H Q E) (np : H p = none) (nd : H dx = none) (ne : dx ≠ p) : spRdI K (.ref p :: ws) (upd (upd H dx (.own p)) p (.ins (CRd K) dx [])) (fun v H2 => v = .non ∧ Q (.ref p) H2) E := by
  obtain ⟨x, v, f, a, b, c, d, rfl, hx, hv, k⟩ := h
  exact ⟨p, dx, x, v, f, a, b, c, d, rfl, upd_same, hx, hv.same (new_same np nd ne), Out.end_ k (fun e z => rz_new np nd z) fun k q H' hp hq kp => ⟨rfl, k p H' (Same.made (Same.refl H) np nd kp) ⟨dx, q, hp, hq⟩⟩⟩
theorem rSt_of {ws : List V} (h : rSt K ws H Q E) (np : H p = none) (nd : H dx = none) (ne : dx ≠ p) : spStI K (.ref p :: ws) (upd (upd H dx (.own p)) p (.ins (CSt K) dx [])) (fun v H2 => v = .non ∧ Q (.ref p) H2) E := by
  obtain ⟨x, v, k, lr, lc, rs, cs, cc, a, b, c, rfl, hx, hv, h1, h2, h3, kk⟩ := h
  have s := new_same (C := CSt K) np nd ne
  exact ⟨p, dx, x, v, k, lr, lc, rs, cs, cc, a, b, c, rfl, upd_same, hx, hv.same s, SqA.same h1 s, SqA.same h2 s, h3.same s, Out.end_ kk (fun e z => rz_new np nd z) fun kk q r g H' hp hq hr hg kp => ⟨rfl, kk p H' (Same.made (Same.refl H) np nd kp) ⟨dx, q, r, g, hp, hq, hr, hg⟩⟩⟩
theorem rLp_of {ws : List V} (h : rLp K ws H Q E) (np : H p = none) (nd : H dx = none) (ne : dx ≠ p) : spLpI K (.ref p :: ws) (upd (upd H dx (.own p)) p (.ins (CL K) dx [])) (fun v H2 => v = .non ∧ Q (.ref p) H2) E := by
  obtain ⟨v1, v2, l, xs, t, u, S, dn, rfl, h1, h2, h3, kk⟩ := h
  have s := new_same (C := CL K) np nd ne
  exact ⟨p, dx, v1, v2, l, xs, t, u, S, dn, rfl, upd_same, h1.same s, h2.same s, SqA.same h3 s, Out.end_ kk (fun e z => rz_new np nd z) fun kk lo hi st H' hp hq hr hg kp => ⟨rfl, kk p H' (Same.made (Same.refl H) np nd kp) ⟨dx, lo, hi, st, hp, hq, hr, hg⟩⟩⟩
theorem rPr_of {ws : List V} (h : rPr K ws H Q E) (np : H p = none) (nd : H dx = none) (ne : dx ≠ p) : spPrI K (.ref p :: ws) (upd (upd H dx (.own p)) p (.ins (CPr K) dx [])) (fun v H2 => v = .non ∧ Q (.ref p) H2) E := by
  obtain ⟨l, xs, ms, rfl, h1, h2, few, kk⟩ := h
  have s := new_same (C := CPr K) np nd ne
  exact ⟨p, dx, l, xs, ms, rfl, upd_same, SqA.same h1 s, h2.same s, few, Out.end_ kk (fun e z => rz_new np nd z) fun kk lt at_ dt ys H' hp h3 h4 h5 h6 h7 kp => ⟨rfl, kk p ys H' (Same.made (Same.refl H) np nd kp) ⟨dx, lt, at_, dt, hp, h3, h4⟩ h5 h6 h7⟩⟩
end
section
variable {X : Cx} {K : PySem.W.Frag} {k : Nat} {E : L2.St → XK} {p pos : Pos} {e : Expr} {es : List Expr} {kws : List Keyword} {t tk : TA}
theorem pe_RdP (M : MkRd X.prog X.w K X.mg X.base) (hK : X.K = K) (hr : Room k X.A) (hx : ∀ σ, PassesAt (L2.CX X.prog X.w) X σ (E σ)) (ha : PA X (e :: es) t) (hjk : 8 ≤ k := by decide) (hg : Gl X "Read" := by rfl) (he : starEach (e :: es) X.env = (false, eval e X.env) :: starEach es X.env := by rfl) (hpl : (backTo pos (starEach es X.env)).any (·.1) = false := by rfl) :
    PE X (.Call (.Name "Read" p) (e :: es) [] pos) (fun σ H Q => t σ H fun vs H1 => rRd K (vs ++ [.int 1]) H1 Q (E σ)) := by
  obtain ⟨f, fd, M, ⟨ds, v, b⟩, _⟩ := M
  exact pe_mkR (R := fun vs H1 Q E => rRd K (vs ++ [.int 1]) H1 Q E) M hK b v (fun q nx nd ne => rRd_of q nx nd ne) hr hx ha hjk hg (by decide) he hpl
theorem pe_RdK (M : MkRd X.prog X.w K X.mg X.base) (hK : X.K = K) (hr : Room k X.A) (hx : ∀ σ, PassesAt (L2.CX X.prog X.w) X σ (E σ)) (ha : PA X (e :: es) t) (hkw : PK X kws tk) (hjk : 8 ≤ k := by decide) (hg : Gl X "Read" := by rfl) (hall : (backToKw pos (keywordEach kws X.env)).all (·.1.isSome) = true := by rfl) (hks : (backToKw pos (keywordEach kws X.env)).filterMap (·.1) = (["factor"] : List Str) := by rfl)
    (he : starEach (e :: es) X.env = (false, eval e X.env) :: starEach es X.env := by rfl) (hpl : ((backTo pos (starEach (e :: es) X.env)).any (·.1) || (backToKw pos (keywordEach kws X.env)).any (·.1.isNone)) = false := by rfl) :
    PE X (.Call (.Name "Read" p) (e :: es) kws pos) (fun σ H Q => t σ H fun vs H1 => tk σ H1 fun zs H2 => vs.length = 2 ∧ zs.length = 1 ∧ rRd K (vs ++ zs) H2 Q (E σ)) := by
  obtain ⟨f, fd, M, _, kb⟩ := M
  exact pe_mkRK (n := 2) (R := fun vs zs H2 Q E => vs.length = 2 ∧ zs.length = 1 ∧ rRd K (vs ++ zs) H2 Q E) M hK kb (fun q => ⟨q.1, q.2.1, fun y dx ny nd ne => rRd_of q.2.2 ny nd ne⟩) hr hx ha hkw hjk hg hall hks (by decide) he hpl
/-- a statement without reads and conditions -/
def rSt0 (K : PySem.W.Frag) (ws : List V) (H : Hp) (Q : VK) (E : XK) : Prop := ∃ (x : Str) (v : V) (k a b c : Int), ws = [.str x, v, .int k] ∧ x.length ≤ 1000 ∧ SumV K H v a b c ∧ Out (ckStm 0 0 x [] a b c k) (Rz K H E) (∀ p H', Same H H' → StmAt K H' p x a b c k [] [] → Q (.ref p) H')
theorem pe_StP (M : MkSt X.prog X.w K X.mg X.base) (hK : X.K = K) (hr : Room k X.A) (hx : ∀ σ, PassesAt (L2.CX X.prog X.w) X σ (E σ)) (ha : PA X (e :: es) t) (hjk : 6 ≤ k := by decide) (hg : Gl X "Statement" := by rfl) (he : starEach (e :: es) X.env = (false, eval e X.env) :: starEach es X.env := by rfl) (hpl : (backTo pos (starEach es X.env)).any (·.1) = false := by rfl) :
    PE X (.Call (.Name "Statement" p) (e :: es) [] pos) (fun σ H Q => t σ H fun vs H1 => rSt0 K vs H1 Q (E σ)) := by
  obtain ⟨f, fd, r0, g0, M, ⟨ds, v, b⟩, _, _, em⟩ := M
  refine pe_mkR (R := fun vs H1 Q E => rSt0 K vs H1 Q E) M hK b v (fun {vs H Q E y dx} q nx nd ne => rSt_of ?_ nx nd ne) hr hx ha hjk hg (by decide) he hpl
  obtain ⟨x, v, k, a, b, c, rfl, hx, hv, kk⟩ := q
  exact ⟨x, v, k, r0, g0, [], [], [], a, b, c, rfl, hx, hv, .inr (em H).1, .inr (em H).2, ⟨rfl, fun i v t h => by cases h⟩, kk⟩
theorem pe_StK2 (M : MkSt X.prog X.w K X.mg X.base) (hK : X.K = K) (hr : Room k X.A) (hx : ∀ σ, PassesAt (L2.CX X.prog X.w) X σ (E σ)) (ha : PA X (e :: es) t) (hkw : PK X kws tk) (hjk : 6 ≤ k := by decide) (hg : Gl X "Statement" := by rfl) (hall : (backToKw pos (keywordEach kws X.env)).all (·.1.isSome) = true := by rfl) (hks : (backToKw pos (keywordEach kws X.env)).filterMap (·.1) = (["reads", "conditions"] : List Str) := by rfl)
    (he : starEach (e :: es) X.env = (false, eval e X.env) :: starEach es X.env := by rfl) (hpl : ((backTo pos (starEach (e :: es) X.env)).any (·.1) || (backToKw pos (keywordEach kws X.env)).any (·.1.isNone)) = false := by rfl) :
    PE X (.Call (.Name "Statement" p) (e :: es) kws pos) (fun σ H Q => t σ H fun vs H1 => tk σ H1 fun zs H2 => vs.length = 3 ∧ zs.length = 2 ∧ rSt K (vs ++ zs) H2 Q (E σ)) := by
  obtain ⟨f, fd, r0, g0, M, _, kb, _⟩ := M
  exact pe_mkRK (n := 3) (R := fun vs zs H2 Q E => vs.length = 3 ∧ zs.length = 2 ∧ rSt K (vs ++ zs) H2 Q E) M hK kb (fun q => ⟨q.1, q.2.1, fun y dx ny nd ne => rSt_of q.2.2 ny nd ne⟩) hr hx ha hkw hjk hg hall hks (by decide) he hpl
/-- a statement without reads -/
def rSt1 (K : PySem.W.Frag) (ws : List V) (H : Hp) (Q : VK) (E : XK) : Prop := ∃ (x : Str) (v : V) (k : Int) (lc : Addr) (cs : List V) (cc : List (Int × Int × Int)) (a b c : Int), ws = [.str x, v, .int k, .ref lc] ∧ x.length ≤ 1000 ∧ SumV K H v a b c ∧
  SqA K H lc cs ∧ Cnds K H cs cc ∧ Out (ckStm 0 cs.length x cc a b c k) (Rz K H E) (∀ p H', Same H H' → StmAt K H' p x a b c k [] cs → Q (.ref p) H')
theorem pe_StK1 (M : MkSt X.prog X.w K X.mg X.base) (hK : X.K = K) (hr : Room k X.A) (hx : ∀ σ, PassesAt (L2.CX X.prog X.w) X σ (E σ)) (ha : PA X (e :: es) t) (hkw : PK X kws tk) (hjk : 6 ≤ k := by decide) (hg : Gl X "Statement" := by rfl) (hall : (backToKw pos (keywordEach kws X.env)).all (·.1.isSome) = true := by rfl) (hks : (backToKw pos (keywordEach kws X.env)).filterMap (·.1) = (["conditions"] : List Str) := by rfl)
    (he : starEach (e :: es) X.env = (false, eval e X.env) :: starEach es X.env := by rfl) (hpl : ((backTo pos (starEach (e :: es) X.env)).any (·.1) || (backToKw pos (keywordEach kws X.env)).any (·.1.isNone)) = false := by rfl) :
    PE X (.Call (.Name "Statement" p) (e :: es) kws pos) (fun σ H Q => t σ H fun vs H1 => tk σ H1 fun zs H2 => vs.length = 3 ∧ zs.length = 1 ∧ rSt1 K (vs ++ zs) H2 Q (E σ)) := by
  obtain ⟨f, fd, r0, g0, M, _, _, ⟨mv, kb⟩, em⟩ := M
  refine pe_mkRK (n := 3) (R := fun vs zs H2 Q E => vs.length = 3 ∧ zs.length = 1 ∧ rSt1 K (vs ++ zs) H2 Q E) M hK kb (fun {vs zs H Q E} q => ⟨q.1, q.2.1, fun y dx ny nd ne => rSt_of ?_ ny nd ne⟩) hr hx ha hkw hjk hg hall hks (by decide) he hpl
  obtain ⟨l1, l2, x, v, k, lc, cs, cc, a, b, c, e, hx, hv, h1, h2, kk⟩ := q
  match vs, zs, l1, l2, e with
  | [v1, v2, v3], [z1], _, _, e =>
    simp only [List.cons_append, List.nil_append, List.cons.injEq, and_true] at e
    obtain ⟨rfl, rfl, rfl, rfl⟩ := e
    exact ⟨x, _, k, r0, lc, [], cs, cc, a, b, c, rfl, hx, hv, .inr (em H).1, h1, h2, kk⟩
theorem pe_LpP (M : MkLp X.prog X.w K X.mg X.base) (hK : X.K = K) (hr : Room k X.A) (hx : ∀ σ, PassesAt (L2.CX X.prog X.w) X σ (E σ)) (ha : PA X (e :: es) t) (hjk : 8 ≤ k := by decide) (hg : Gl X "Loop" := by rfl) (he : starEach (e :: es) X.env = (false, eval e X.env) :: starEach es X.env := by rfl) (hpl : (backTo pos (starEach es X.env)).any (·.1) = false := by rfl) :
    PE X (.Call (.Name "Loop" p) (e :: es) [] pos) (fun σ H Q => t σ H fun vs H1 => rLp K (vs ++ [.int 1, .bl false]) H1 Q (E σ)) := by
  obtain ⟨f, fd, M, ⟨ds, v, b⟩, _⟩ := M
  exact pe_mkR (R := fun vs H1 Q E => rLp K (vs ++ [.int 1, .bl false]) H1 Q E) M hK b v (fun q nx nd ne => rLp_of q nx nd ne) hr hx ha hjk hg (by decide) he hpl
theorem pe_LpK (M : MkLp X.prog X.w K X.mg X.base) (hK : X.K = K) (hr : Room k X.A) (hx : ∀ σ, PassesAt (L2.CX X.prog X.w) X σ (E σ)) (ha : PA X (e :: es) t) (hkw : PK X kws tk) (hjk : 8 ≤ k := by decide) (hg : Gl X "Loop" := by rfl) (hall : (backToKw pos (keywordEach kws X.env)).all (·.1.isSome) = true := by rfl) (hks : (backToKw pos (keywordEach kws X.env)).filterMap (·.1) = (["step"] : List Str) := by rfl)
    (he : starEach (e :: es) X.env = (false, eval e X.env) :: starEach es X.env := by rfl) (hpl : ((backTo pos (starEach (e :: es) X.env)).any (·.1) || (backToKw pos (keywordEach kws X.env)).any (·.1.isNone)) = false := by rfl) :
    PE X (.Call (.Name "Loop" p) (e :: es) kws pos) (fun σ H Q => t σ H fun vs H1 => tk σ H1 fun zs H2 => vs.length = 3 ∧ zs.length = 1 ∧ rLp K (vs ++ (zs ++ [.bl false])) H2 Q (E σ)) := by
  obtain ⟨f, fd, M, _, mv, kb⟩ := M
  exact pe_mkRK (n := 3) (R := fun vs zs H2 Q E => vs.length = 3 ∧ zs.length = 1 ∧ rLp K (vs ++ (zs ++ [.bl false])) H2 Q E) M hK kb (fun q => ⟨q.1, q.2.1, fun y dx ny nd ne => rLp_of q.2.2 ny nd ne⟩) hr hx ha hkw hjk hg hall hks (by decide) he hpl
theorem pe_PrP (M : MkPr X.prog X.w K X.mg X.base) (hK : X.K = K) (hr : Room k X.A) (hx : ∀ σ, PassesAt (L2.CX X.prog X.w) X σ (E σ)) (ha : PA X (e :: es) t) (hjk : 5 ≤ k := by decide) (hg : Gl X "Program" := by rfl) (he : starEach (e :: es) X.env = (false, eval e X.env) :: starEach es X.env := by rfl) (hpl : (backTo pos (starEach es X.env)).any (·.1) = false := by rfl) :
    PE X (.Call (.Name "Program" p) (e :: es) [] pos) (fun σ H Q => t σ H fun vs H1 => rPr K vs H1 Q (E σ)) := by
  obtain ⟨f, fd, M, b⟩ := M
  exact pe_mkR (R := fun vs H1 Q E => rPr K vs H1 Q E) M hK b .nil (fun q nx nd ne => by rw [List.append_nil]; exact rPr_of q nx nd ne) hr hx ha hjk hg (by decide) he hpl
end
end K23

set_option maxHeartbeats 4000000
namespace K23
open PySem PySem.Spec PyProof.Rows L2 Z
structure LwTx (K : PySem.W.Frag) (mg : Str → Option Value) : Prop extends PrTx K mg where
  list : mg "list" = none
  range : mg "range" = none
  max : mg "max" = none
  min : mg "min" = none
theorem LwTx.bt {K : PySem.W.Frag} {mg : Str → Option Value} (T : LwTx K mg) : Bt mg := ⟨T.int, T.len, T.list⟩
theorem text_len {n : Int} (h0 : 0 ≤ n) (h1 : n < 10 ^ 40) : (PySem.Str.ofString (toString n)).length ≤ 40 := by
  rw [PyProof.Rows.ofString_len]
  cases n with
  | ofNat m =>
    show (Nat.repr m).length ≤ 40
    have h2 : m < 10 ^ 40 := by
      have e : ((m : Nat) : Int) < 10 ^ 40 := h1
      omega
    exact (Nat.length_repr_le_iff (n := m) (by decide : 0 < 40)).mpr h2
  | negSucc m => exact absurd h0 (Int.not_le.mpr (Int.negSucc_lt_zero m))
theorem text_log {n : Int} (h0 : 0 ≤ n) (h1 : n < 10 ^ 40) : n.natAbs.log2 < 1920 := by
  have h2 : n.natAbs < 2 ^ 200 := by
    have : (10 : Int) ^ 40 < 2 ^ 200 := by decide +kernel
    omega
  by_cases h : n.natAbs = 0
  · rw [h]
    decide
  · exact Nat.lt_of_lt_of_le ((Nat.log2_lt h).mpr h2) (by decide)
def spBigG : Sp := fun vs H Q _ => ∃ (p : Addr) (M : Int) (t : Nat), vs = [.ref p, .int M] ∧ 0 < M ∧ M < 10 ^ 40 ∧ t < 900000000 ∧ Pen H p t ∧ ∀ H' (d : Int), 0 ≤ d → d < M → Pen H' p (t + 20) → Keep p H H' → Q (.int d) H'
def spBetween : Sp := fun vs H Q _ => ∃ (p : Addr) (lo hi : Int) (t : Nat), vs = [.ref p, .int lo, .int hi] ∧ lo ≤ hi ∧ hi - lo < 100000 ∧ t < 900000000 ∧ Pen H p t ∧ ∀ H' (d : Int), lo ≤ d → d ≤ hi → Pen H' p (t + 2) → Keep p H H' → Q (.int d) H'
def spFar : Sp := fun vs H Q _ => ∃ (p : Addr) (t : Nat), vs = [.ref p] ∧ t < 800000000 ∧ Pen H p t ∧ ∀ H' (d : Int), 0 ≤ d → Pen H' p (t + 21) → Keep p H H' → Q (.int d) H'
def spName : Sp := fun vs H Q _ => ∃ (p : Addr) (t : Nat), vs = [.ref p] ∧ t < 900000000 ∧ Pen H p t ∧ ∀ H' (x : Str), isName x = true → x.length ≤ 8 → Pen H' p (t + 9) → Keep p H H' → Q (.str x) H'
theorem mid {S1 S2 : TS} {D : Ends} {σ : L2.St} {H : Hp} (W2 : L2.St → Hp → Prop) (h1 : (∀ σ' H', W2 σ' H' → S2 D σ' H') → tSeq S1 S2 D σ H) (h2 : ∀ σ' H', W2 σ' H' → S2 D σ' H') : tSeq S1 S2 D σ H := h1 h2
theorem sz4 : 4 ≤ sizeLine := by show 4 ≤ sizeLine; decide
theorem at0 {x : V} {l : List V} : atI (x :: l) 0 = some x := atI_nat (xs := x :: l) (j := 0) rfl
theorem at1 {x y : V} {l : List V} : atI (x :: y :: l) 1 = some y := atI_nat (xs := x :: y :: l) (j := 1) rfl
theorem at2 {x y z : V} {l : List V} : atI (x :: y :: z :: l) 2 = some z := atI_nat (xs := x :: y :: z :: l) (j := 2) rfl
theorem join_nil (l : List (List Nat)) : TL.joinL [] l = l.flatten := by
  induction l with
  | nil => rfl
  | cons p l ih =>
    cases l with
    | nil => simp [TL.joinL]
    | cons q r =>
      show p ++ ([] ++ TL.joinL [] (q :: r)) = _
      rw [ih]
      rfl
section
variable {P : Program} {w : World} {K : PySem.W.Frag} {mg : Str → Option Value} {base : Heap}
theorem sc_law_big : FnScope ["_law_pen_here", "_law_many", "_law_found", "_law_k"] ["_law_pen_here", "_law_many"] (defScope s_law_big) := ⟨rfl, rfl, rfl, by decide +kernel, rfl, by decide +kernel, by decide +kernel⟩
theorem ok_bigG {f : Addr} {fd : FuncData} (F : FnP K "_law_big" s_law_big f fd) (T : LwTx K mg) (dDraw : Dn P w K mg base 1 "_law_draw" ["_law_pen_here", "_law_many"] spDraw) : FnOk P w K mg base CX0 2 f fd ["_law_pen_here", "_law_many"] spBigG := by
  refine F.ok sc_law_big (fun vs H Q E h => ?_) (fun cdv A outer s H vs Q E hr h => ?_)
  · obtain ⟨p, M, t, rfl, _⟩ := h
    rfl
  · obtain ⟨p, M, t, rfl, M0, M1, ht, hP, k⟩ := h
    refine ⟨_, PSs.nox (pss_cons (ps_set (i := 2) sc_law_big.nd rfl (Or.inl rfl) pe_int)
      (pss_cons (ps_for PassesOwn.never rfl (pi_range1 (by rfl) T.range (pa_cons (pe_op op_add (pe_op op_fdivN (pe_callB call_len_str (by rfl) T.len PySem.boot_len (pa_cons (pe_callTy call_str_int (by rfl) T.str (by decide +kernel) (pa_cons (pv 1) pa_nil)) pa_nil)) pe_int) pe_int) pa_nil)) (pg_name (i := 3) sc_law_big.nd rfl (.inl rfl)) (pss_one (ps_set (i := 2) sc_law_big.nd rfl (Or.inl rfl) (pe_op op_add (pe_op op_mul (pv 2) (pe_op op_pow pe_int pe_int)) (pe_dn dDraw hr (pa_cons (pv 0) (pa_cons (pe_op op_pow pe_int pe_int) pa_nil)))))))
      (pss_one (ps_ret (pe_op op_modN (pe_callTy call_int1 (by rfl) T.int (by decide +kernel) (pa_cons (pv 2) pa_nil)) (pv 1)))))), ?_⟩
    have tl := text_len (n := M) (by omega) M1
    have szl : 1000 ≤ sizeLine := by show 1000 ≤ sizeLine; decide
    refine ⟨_, rfl, ?_⟩
    refine ⟨_, rfl, text_log (by omega) M1, _, rfl, Nat.le_trans tl (by omega), _, _, rfl, rfl, ⟨by decide, by decide⟩, _, _, rfl, rfl, ?_⟩
    obtain ⟨q, hq⟩ : ∃ q : Nat, (q : Int) = (((PySem.Str.ofString (toString M)).length : Nat) : Int).fdiv 6 + 2 := by
      have e := Int.fdiv_eq_ediv_of_nonneg (((PySem.Str.ofString (toString M)).length : Nat) : Int) (show (0 : Int) ≤ 6 by decide)
      rw [e]
      exact ⟨((((PySem.Str.ofString (toString M)).length : Nat) : Int) / 6 + 2).toNat, by omega⟩
    have hq8 : q ≤ 20 := by
      have e := Int.fdiv_eq_ediv_of_nonneg (((PySem.Str.ofString (toString M)).length : Nat) : Int) (show (0 : Int) ≤ 6 by decide)
      rw [e] at hq
      omega
    refine ⟨(q : Int), congrArg (fun z => [V.int z]) hq.symm, by omega, by omega, ?_⟩
    rw [Int.toNat_natCast]
    refine for_range (lo := 0) (n := q) (fun i σ H' => ∃ (x : Int) (v : Option V), σ = [some (.ref p), some (.int M), some (.int x), v] ∧ 0 ≤ x ∧ Pen H' p (t + i) ∧ Keep p H H') ⟨0, _, rfl, by decide, hP, Keep.refl _ _⟩ ?_ ?_
    · rintro i σ H2 hi ⟨x, v, rfl, hx, hP2, kp⟩
      refine ⟨_, rfl, _, _, rfl, rfl, ⟨by decide, by decide, by decide⟩, _, _, rfl, rfl, .inr ⟨by decide, by decide⟩, ?_⟩
      refine ⟨_, rfl, _, _, rfl, rfl, ⟨by decide, by decide, by decide⟩, p, _, t + i, rfl, by decide, by decide, by omega, hP2, fun H3 d d0 d1 hP3 kp3 => ?_⟩
      have hx2 : 0 ≤ x * 10 ^ (6 : Int).toNat := Int.mul_nonneg hx (by decide)
      exact ⟨_, _, rfl, rfl, _, _, rfl, by omega, hP3, kp.trans kp3⟩
    · rintro σ H2 ⟨x, v, rfl, hx, hP2, kp⟩
      refine ⟨_, rfl, .inl ⟨_, rfl, _, rfl, _, _, rfl, rfl, by omega, ?_⟩⟩
      exact k _ _ (fmod_range M0).1 (fmod_range M0).2 (hP2.mono (by omega)) kp
theorem sc_law_between : FnScope ["_law_pen_here", "_law_least", "_law_most", "_law_way", "_law_found"] ["_law_pen_here", "_law_least", "_law_most"] (defScope s_law_between) := ⟨rfl, rfl, rfl, by decide +kernel, rfl, by decide +kernel, by decide +kernel⟩
theorem ok_between {f : Addr} {fd : FuncData} (F : FnP K "_law_between" s_law_between f fd) (T : LwTx K mg) (dDraw : Dn P w K mg base 1 "_law_draw" ["_law_pen_here", "_law_many"] spDraw) : FnOk P w K mg base CX0 2 f fd ["_law_pen_here", "_law_least", "_law_most"] spBetween := by
  refine F.ok sc_law_between (fun vs H Q E h => ?_) (fun cdv A outer s H vs Q E hr h => ?_)
  · obtain ⟨p, lo, hi, t, rfl, _⟩ := h
    rfl
  · obtain ⟨p, lo, hi, t, rfl, hlh, hsm, ht, hP, k⟩ := h
    refine ⟨_, PSs.nox (pss_cons (ps_set (i := 3) sc_law_between.nd rfl (Or.inl rfl) (pe_dn dDraw hr (pa_cons (pv 0) (pa_cons pe_int pa_nil))))
      (pss_cons (ps_if (pt_cmpR op_lt (pv 3) pe_int (nomark _)) (pss_one (ps_set (i := 4) sc_law_between.nd rfl (Or.inl rfl) (pe_op op_sub (pe_dn dDraw hr (pa_cons (pv 0) (pa_cons pe_int pa_nil))) pe_int))) (pss_one (ps_if (pt_cmpR op_eq (pv 3) pe_int (nomark _)) (pss_one (ps_set (i := 4) sc_law_between.nd rfl (Or.inl rfl) (pe_ix ix_list (pe_lst (pa_cons (pv 1) (pa_cons (pv 2) (pa_cons (pe_op op_add (pv 1) pe_int) (pa_cons (pe_op op_sub (pv 2) pe_int) pa_nil))))) (pe_dn dDraw hr (pa_cons (pv 0) (pa_cons pe_int pa_nil))) (fun _ _ => rfl)))) (pss_one (ps_set (i := 4) sc_law_between.nd rfl (Or.inl rfl) (pe_op op_add (pv 1) (pe_dn dDraw hr (pa_cons (pv 0) (pa_cons (pe_op op_add (pe_op op_sub (pv 2) (pv 1)) pe_int) pa_nil)))))))))
      (pss_one (ps_ret (pe_callB (call_max2 rfl) (by rfl) T.max (by decide +kernel) (pa_cons (pv 1) (pa_cons (pe_callB (call_min2 rfl) (by rfl) T.min (by decide +kernel) (pa_cons (pv 2) (pa_cons (pv 4) pa_nil))) pa_nil))))))), ?_⟩
    refine ⟨_, rfl, p, 4, t, rfl, by decide, by decide, by omega, hP, fun H1 e e0 e1 hP1 k1 => ?_⟩
    refine normG (σ' := [some (.ref p), some (.int lo), some (.int hi), some (.int e), none]) rfl ?_
    dsimp only
    refine mid (fun σ' H' => ∃ x, σ' = [some (.ref p), some (.int lo), some (.int hi), some (.int e), some (.int x)] ∧ Pen H' p (t + 2) ∧ Keep p H H') (fun key => ?_) ?_
    · refine ⟨_, rfl, _, _, rfl, rfl, _, rfl, ite2 (fun _ => ?_) (fun _ => ?_)⟩
      · exact ⟨_, rfl, p, 7, t + 1, rfl, by decide, by decide, by omega, hP1, fun H2 d d0 d1 hP2 k2 => ⟨_, _, rfl, rfl, key _ _ ⟨_, rfl, hP2.mono (by omega), k1.trans k2⟩⟩⟩
      · refine ⟨_, rfl, rfl, _, rfl, ite2 (fun _ => ?_) (fun _ => ?_)⟩
        · refine ⟨_, rfl, _, rfl, _, rfl, _, _, rfl, rfl, _, rfl, _, _, rfl, rfl, sz4, fun l hl => ?_⟩
          have s2 := Same.new (.lst [.int lo, .int hi, .int (lo + 1), .int (hi - 1)]) (Same.refl H1) hl
          refine ⟨_, rfl, p, 4, t + 1, rfl, by decide, by decide, by omega, hP1.same s2, fun H2 d d0 d1 hP2 k2 => ?_⟩
          have hL2 := k2 _ _ ((hP1.same s2).ne (upd_same (H := H1) (a := l)) fun _ z => by cases z) (upd_same (H := H1) (a := l))
          obtain ⟨j, rfl⟩ : ∃ j : Nat, d = (j : Int) := ⟨d.toNat, by omega⟩
          have hv : ∃ v : Int, ([.int lo, .int hi, .int (lo + 1), .int (hi - 1)] : List V)[j]? = some (.int v) := by
            have h4 : j < 4 := by omega
            match j, h4 with
            | 0, _ => exact ⟨_, rfl⟩
            | 1, _ => exact ⟨_, rfl⟩
            | 2, _ => exact ⟨_, rfl⟩
            | 3, _ => exact ⟨_, rfl⟩
          obtain ⟨v, hv⟩ := hv
          exact ⟨l, _, _, _, rfl, rfl, SqL.of hL2, atI_nat hv, key _ _ ⟨_, rfl, hP2.mono (by omega), k1.trans ((Keep.of s2).trans k2)⟩⟩
        · refine ⟨_, rfl, _, rfl, _, rfl, _, rfl, _, _, rfl, rfl, _, _, rfl, rfl, p, hi - lo + 1, t + 1, rfl, by omega, by omega, by omega, hP1, fun H2 d d0 d1 hP2 k2 => ?_⟩
          exact ⟨_, _, rfl, rfl, key _ _ ⟨_, rfl, hP2.mono (by omega), k1.trans k2⟩⟩
    rintro σ H2 ⟨x, rfl, hP2, k2⟩
    refine ⟨_, rfl, _, rfl, _, rfl, _, _, rfl, _, _, rfl, ?_⟩
    refine k _ _ ?_ ?_ hP2 k2
    · split <;> split <;> omega
    · split <;> split <;> omega
theorem sc_law_far : FnScope ["_law_pen_here", "_law_way"] ["_law_pen_here"] (defScope s_law_far) := ⟨rfl, rfl, rfl, by decide +kernel, rfl, by decide +kernel, by decide +kernel⟩
theorem ok_far {f : Addr} {fd : FuncData} (F : FnP K "_law_far" s_law_far f fd) (T : LwTx K mg) (dDraw : Dn P w K mg base 1 "_law_draw" ["_law_pen_here", "_law_many"] spDraw) (dBig : Dn P w K mg base 2 "_law_big" ["_law_pen_here", "_law_many"] spBigG) : FnOk P w K mg base CX0 3 f fd ["_law_pen_here"] spFar := by
  refine F.ok sc_law_far (fun vs H Q E h => ?_) (fun cdv A outer s H vs Q E hr h => ?_)
  · obtain ⟨p, t, rfl, _⟩ := h
    rfl
  · obtain ⟨p, t, rfl, ht, hP, k⟩ := h
    refine ⟨_, PSs.nox (pss_cons (ps_set (i := 1) sc_law_far.nd rfl (Or.inl rfl) (pe_dn dDraw hr (pa_cons (pv 0) (pa_cons pe_int pa_nil))))
      (pss_cons (ps_if (pt_cmpR op_eq (pv 1) pe_int (nomark _)) (pss_one (ps_ret (pe_dn dDraw hr (pa_cons (pv 0) (pa_cons pe_int pa_nil))))) pss_nil)
      (pss_cons (ps_if (pt_cmpR op_eq (pv 1) pe_int (nomark _)) (pss_one (ps_ret (pe_dn dDraw hr (pa_cons (pv 0) (pa_cons pe_int pa_nil))))) pss_nil)
      (pss_one (ps_ret (pe_dn dBig hr (pa_cons (pv 0) (pa_cons (pe_op op_pow pe_int pe_int) pa_nil)))))))), ?_⟩
    refine ⟨_, rfl, p, 3, t, rfl, by decide, by decide, by omega, hP, fun H1 e e0 e1 hP1 k1 => ?_⟩
    refine ⟨_, rfl, rfl, _, rfl, ite2 (fun _ => ?_) (fun _ => ?_)⟩
    · exact ⟨_, rfl, p, 6, t + 1, rfl, by decide, by decide, by omega, hP1, fun H2 d d0 d1 hP2 k2 => k _ _ d0 (hP2.mono (by omega)) (k1.trans k2)⟩
    refine ⟨_, rfl, rfl, _, rfl, ite2 (fun _ => ?_) (fun _ => ?_)⟩
    · exact ⟨_, rfl, p, 600, t + 1, rfl, by decide, by decide, by omega, hP1, fun H2 d d0 d1 hP2 k2 => k _ _ d0 (hP2.mono (by omega)) (k1.trans k2)⟩
    exact ⟨_, rfl, _, _, rfl, rfl, ⟨by decide, by decide, by decide⟩, p, _, t + 1, rfl, by decide +kernel, by decide +kernel, by omega, hP1, fun H2 d d0 d1 hP2 k2 => k _ _ d0 (hP2.mono (by omega)) (k1.trans k2)⟩
end
end K23

set_option maxHeartbeats 4000000
namespace K23
open PySem PySem.Spec PyProof.Rows L2 Z
theorem sz10 : 10 ≤ sizeLine := by show 10 ≤ sizeLine; decide
def keptL : List Str := ["for", "i", "n", "from", "below", "by", "down", "if", "and", "mod"]
theorem kept_same (x : Str) : x ∈ keptL ↔ x ∈ kept := by
  unfold keptL kept
  simp only [List.mem_cons, List.not_mem_nil, or_false]
  constructor
  · rintro (h | h | h | h | h | h | h | h | h | h) <;> simp [h]
  · rintro (h | h | h | h | h | h | h | h | h | h) <;> simp [h]
theorem kept_z : ∀ x ∈ keptL, isName (x ++ ("z" : Str)) = true ∧ (x ++ ("z" : Str)).length ≤ 8 := by decide +kernel
theorem lets_at : ∀ j : Nat, j < 26 → ∃ c, lets.cps.toList[j]? = some c ∧ c ∈ lets.cps.toList := by
  intro j hj
  have hl : lets.cps.toList.length = 26 := by decide +kernel
  exact ⟨_, List.getElem?_eq_getElem (by omega), List.getElem_mem _⟩
/-- a text of letters is a name, unless it is kept -/
theorem name_of {x : Str} {cs : List Nat} (e : x.cps.toList = cs) (h1 : 1 ≤ cs.length) (h8 : cs.length ≤ 8) (hl : ∀ c ∈ cs, c ∈ lets.cps.toList) (hk : x ∉ kept) : isName x = true := by
  have xl : x.length = cs.length := by
    rw [← e, Array.length_toList]
    rfl
  unfold isName
  rw [decide_eq_true (show 1 ≤ x.length ∧ x.length ≤ 8 by omega), Bool.true_and, decide_eq_true hk, Bool.and_true, e]
  exact List.all_eq_true.mpr fun c hc => decide_eq_true (hl c hc)
def sing (c : Nat) : Str := ⟨#[c]⟩
theorem join_sing (cs : List Nat) : (Txt.join ("" : Str) (cs.map sing)).cps.toList = cs := by
  have e := TL.tl_join ("" : Str) (cs.map sing)
  rw [TL.join_eq]
  have e2 : TL.tl ("" : Str) = [] := by decide +kernel
  rw [e2, join_nil, List.map_map] at e
  have e3 : (cs.map (TL.tl ∘ sing)).flatten = cs := by
    clear e e2
    induction cs with
    | nil => rfl
    | cons c cs ih =>
      rw [List.map_cons, List.flatten_cons, ih]
      rfl
  rw [e3] at e
  exact e
theorem PenC.same {H H' : Hp} {p c : Addr} {t : Nat} (h : PenC H p c t) (s : Same H H') : PenC H' p c t := by
  obtain ⟨ns, a, l, h1, h2, h3⟩ := h
  exact ⟨ns, a, l, s _ _ h1, s _ _ h2, h3⟩
theorem PenC.upd {H : Hp} {p c D : Addr} {t t' : Nat} {o : HO} (h : PenC H p c t) (n1 : D ≠ p) (n2 : D ≠ c) (ht : t ≤ t') : PenC (upd H D o) p c t' := by
  obtain ⟨ns, a, l, h1, h2, h3, h4, h5, h6⟩ := h
  exact ⟨ns, a, l, by rw [upd_ne n1.symm]; exact h1, by rw [upd_ne n2.symm]; exact h2, h3, h4, by omega, h6⟩
section
variable {P : Program} {w : World} {K : PySem.W.Frag} {mg : Str → Option Value} {base : Heap}
theorem sc_law_name : FnScope ["_law_pen_here", "_law_letters", "_law_name_here", "_law_k"] ["_law_pen_here"] (defScope s_law_name) := ⟨rfl, rfl, rfl, by decide +kernel, rfl, by decide +kernel, by decide +kernel⟩
theorem ok_name {f : Addr} {fd : FuncData} (F : FnP K "_law_name" s_law_name f fd) (T : LwTx K mg) (dDraw : Dn P w K mg base 1 "_law_draw" ["_law_pen_here", "_law_many"] spDrawC) : FnOk P w K mg base CX0 2 f fd ["_law_pen_here"] spName := by
  refine F.ok sc_law_name (fun vs H Q E h => ?_) (fun cdv A outer s H vs Q E hr h => ?_)
  · obtain ⟨p, t, rfl, _⟩ := h
    rfl
  · obtain ⟨p, t, rfl, ht, hP, k⟩ := h
    refine ⟨_, PSs.nox (pss_cons (ps_set (i := 1) sc_law_name.nd rfl (Or.inr rfl) pe_str)
      (pss_cons (ps_set (i := 2) sc_law_name.nd rfl (Or.inl rfl) (pe_join pe_str (pe_lc (own := [("_law_k", 3)]) (g := gName 3) (tt := tYes) rfl sc_law_name.nd (pi_range1 (by rfl) T.range (pa_cons (pe_op op_add pe_int (pe_dn dDraw hr (pa_cons (pv 0) (pa_cons pe_int pa_nil)))) pa_nil)) (blkOk_by (N := ["_law_pen_here", "_law_letters", "_law_name_here", "_law_k"]) (sc := defScope s_law_name) (by decide +kernel)) (fun _ _ _ _ _ => (pg_name (i := 3) sc_law_name.nd rfl (.inl rfl))) (fun _ _ _ _ _ => pts_nil) (fun _ _ _ _ _ => (pe_ix ix_str (pv 1) (pe_dn dDraw hr (pa_cons (pv 0) (pa_cons pe_int pa_nil))) (fun _ _ => rfl))))))
      (pss_cons (ps_if (pt_cmpR op_in_seq (pv 2) (pe_tup (pa_cons pe_str (pa_cons pe_str (pa_cons pe_str (pa_cons pe_str (pa_cons pe_str (pa_cons pe_str (pa_cons pe_str (pa_cons pe_str (pa_cons pe_str (pa_cons pe_str pa_nil))))))))))) (by with_unfolding_all rfl)) (pss_one (ps_ret (pe_op op_add_str (pv 2) pe_str))) pss_nil)
      (pss_one (ps_ret (pv 2)))))), ?_⟩
    obtain ⟨c0, hP⟩ := Pen.penC hP
    refine ⟨⟨_, rfl⟩, ?_⟩
    refine ⟨_, rfl, p, 8, t, c0, rfl, by decide, by decide, by omega, hP, fun H1 e e0 e1 hP1 k1 => ⟨_, _, rfl, rfl, ?_⟩⟩
    obtain ⟨n, hn⟩ : ∃ n : Nat, (n : Int) = 1 + e := ⟨(1 + e).toNat, by omega⟩
    refine ⟨(n : Int), congrArg (fun z => [V.int z]) hn.symm, by omega, by omega, ?_⟩
    rw [Int.toNat_natCast]
    intro D hD
    have sD := Same.new (.lst []) (Same.refl H1) hD
    refine lc_range (lo := 0) (n := n) (fun i Hc => ∃ cs : List Nat, cs.length = i ∧ (∀ c ∈ cs, c ∈ lets.cps.toList) ∧ Hc D = some (.lst ((cs.map sing).map V.str)) ∧ PenC Hc p c0 (t + 1 + i) ∧ Keep p H Hc) ⟨[], rfl, (fun _ h => by cases h), upd_same, hP1.same sD, k1.trans (Keep.of sD)⟩ ?_ ?_
    · rintro i Hc hi ⟨cs, hcs, hlet, hDc, hPc, kc⟩
      refine ⟨rfl, yes_of ?_⟩
      refine ⟨_, rfl, _, rfl, p, 26, t + 1 + i, c0, rfl, by decide, by decide, by omega, hPc, fun H2 d d0 d1 hP2 k2 => ?_⟩
      obtain ⟨j, rfl⟩ : ∃ j : Nat, d = (j : Int) := ⟨d.toNat, by omega⟩
      obtain ⟨c, hc, hcl⟩ := lets_at j (by omega)
      have hD2 := k2 _ _ (hPc.pen.ne hDc fun _ z => by cases z) hDc
      refine ⟨lets, _, c, rfl, rfl, by decide +kernel, atI_nat hc, ?_⟩
      refine ⟨_, hD2, ?_, cs ++ [c], ?_, ?_, ?_, ?_, ?_⟩
      · rw [List.length_map, List.length_map]
        have := sz10
        omega
      · rw [List.length_append, hcs]
        rfl
      · intro x hx
        rcases List.mem_append.mp hx with z | z
        · exact hlet x z
        · rw [List.mem_singleton.mp z]
          exact hcl
      · rw [upd_same]
        simp [sing]
      · refine hP2.upd ?_ ?_ (t' := t + 1 + (i + 1)) (by omega)
        · exact fun z => (hP2.pen.ne hD2 fun _ z => by cases z) z
        · intro z
          rw [z] at hD
          obtain ⟨o, ho⟩ := hP1.has
          rw [ho] at hD
          cases hD
      · intro b o nb e
        rw [upd_ne (ne_of_none (k1 b o nb e) hD)]
        exact k2 _ _ nb (kc b o nb e)
    · rintro Hc ⟨cs, hcs, hlet, hDc, hPc, kc⟩
      have hsum : ∀ cs : List Nat, ((cs.map sing).map (·.length)).sum = cs.length := by
        intro cs
        induction cs with
        | nil => rfl
        | cons c cs ih =>
          rw [List.map_cons, List.map_cons, List.sum_cons, ih, List.length_cons]
          show 1 + cs.length = cs.length + 1
          omega
      refine ⟨("" : Str), D, cs.map sing, rfl, rfl, .inl (SqL.of hDc), ?_, ?_⟩
      · rw [hsum, List.length_map]
        show cs.length + cs.length * 0 ≤ 16777216
        omega
      obtain ⟨x, hx⟩ : ∃ x, x = Txt.join ("" : Str) (cs.map sing) := ⟨_, rfl⟩
      rw [← hx]
      have xe : x.cps.toList = cs := by rw [hx]; exact join_sing cs
      have c1 : 1 ≤ cs.length := by omega
      have c8 : cs.length ≤ 8 := by omega
      have xl : x.length ≤ 8 := by
        have : x.length = x.cps.toList.length := (Array.length_toList).symm
        rw [this, xe]
        exact c8
      refine ⟨_, rfl, ?_⟩
      refine ⟨sz10, fun T hT => ?_⟩
      have sT := Same.new (.tup (keptL.map V.str)) (Same.refl Hc) hT
      have kT : Keep p Hc (upd Hc T (.tup (keptL.map V.str))) := Keep.of sT
      refine ⟨T, _, rfl, .inr (SqT.of (xs := keptL.map V.str) upd_same), rfl, flat_strs keptL, _, rfl, ?_⟩
      rw [inv_strs]
      by_cases hk : x ∈ keptL
      · obtain ⟨z1, z2⟩ := kept_z x hk
        exact if_yes (decide_eq_true hk) ⟨_, rfl, _, _, rfl, rfl, Nat.le_trans (Nat.add_le_add_right xl 1) (by show 9 ≤ sizeLine; decide), k _ _ z1 z2 ((hPc.pen.same sT).mono (by omega)) (kc.trans kT)⟩
      · have hk2 : x ∉ kept := fun z => hk ((kept_same x).mpr z)
        exact if_no (decide_eq_false hk) ⟨_, rfl, k _ _ (name_of xe c1 c8 hlet hk2) xl ((hPc.pen.same sT).mono (by omega)) (kc.trans kT)⟩
end
end K23

set_option maxHeartbeats 4000000
namespace K23
open PySem PySem.Spec PyProof.Rows L2 Z
def bnds : List (Str × Int × Int) := [("factor", -999, 999), ("i", -12, 12), ("n", -12, 12), ("one", -999, 999), ("divisor", 1, 3), ("i", -12, 12), ("n", -12, 12), ("one", -999, 999), ("constant", -999, 999), ("i", -12, 12), ("n", -12, 12), ("one", -999, 999),
  ("step", 1, 16), ("n", 0, 3), ("one", -999, 999), ("divisor", 1, 3), ("n", 0, 3), ("one", -999, 999), ("divisor", 1, 3), ("i", 0, 0), ("i", 0, 0)]
def BndAt (H : Hp) (l : Addr) : Prop := ∃ ts : List Addr, H l = some (.lst (ts.map V.ref)) ∧ ts.length = 21 ∧ ∀ q ∈ ts.zip bnds, H q.1 = some (.tup [.str q.2.1, .int q.2.2.1, .int q.2.2.2])
theorem bnd_at {H : Hp} {l : Addr} (h : BndAt H l) {j : Nat} (hj : j < 21) : ∃ (xs : List V) (t : Addr) (b : Str × Int × Int), H l = some (.lst xs) ∧ xs[j]? = some (.ref t) ∧ bnds[j]? = some b ∧ H t = some (.tup [.str b.1, .int b.2.1, .int b.2.2]) := by
  obtain ⟨ts, h1, h2, h3⟩ := h
  have hb : bnds.length = 21 := rfl
  refine ⟨_, ts[j], bnds[j], h1, by rw [List.getElem?_map, List.getElem?_eq_getElem (by omega)]; rfl, List.getElem?_eq_getElem (by omega), ?_⟩
  have hz : j < (ts.zip bnds).length := by rw [List.length_zip]; omega
  have := h3 _ (List.getElem_mem hz)
  rw [List.getElem_zip] at this
  exact this
def spBounds : Sp := fun vs H Q _ => vs = [] ∧ ∀ l H', Same H H' → BndAt H' l → Q (.ref l) H'
theorem sz1 : 1 ≤ sizeLine := by show 1 ≤ sizeLine; decide
theorem sz2 : 2 ≤ sizeLine := by show 2 ≤ sizeLine; decide
theorem sz3 : 3 ≤ sizeLine := by show 3 ≤ sizeLine; decide
section
variable {P : Program} {w : World} {K : PySem.W.Frag} {mg : Str → Option Value} {base : Heap}
theorem sc_law_bounds : FnScope ["_law_line", "_law_bound", "_law_found"] [] (defScope s_law_bounds) := ⟨rfl, rfl, rfl, by decide +kernel, rfl, by decide +kernel, by decide +kernel⟩
theorem ok_bounds {f : Addr} {fd : FuncData} (F : FnP K "_law_bounds" s_law_bounds f fd) : FnOk P w K mg base CX0 1 f fd [] spBounds := by
  refine F.ok sc_law_bounds (fun vs H Q E h => ?_) (fun cdv A outer s H vs Q E hr h => ?_)
  · obtain ⟨rfl, _⟩ := h
    rfl
  · obtain ⟨rfl, k⟩ := h
    refine ⟨_, PSs.nox (pss_cons (ps_set (i := 0) sc_law_bounds.nd rfl (Or.inl rfl) (pe_lst (pa_cons (pe_tup (pa_cons pe_str (pa_cons (pe_un un_neg pe_int) (pa_cons pe_int pa_nil)))) (pa_cons (pe_tup (pa_cons pe_str (pa_cons (pe_un un_neg pe_int) (pa_cons pe_int pa_nil)))) (pa_cons (pe_tup (pa_cons pe_str (pa_cons (pe_un un_neg pe_int) (pa_cons pe_int pa_nil)))) pa_nil)))))
      (pss_cons (ps_set (i := 1) sc_law_bounds.nd rfl (Or.inl rfl) (pe_lst (pa_cons (pe_tup (pa_cons pe_str (pa_cons pe_int (pa_cons pe_int pa_nil)))) (pa_cons (pe_tup (pa_cons pe_str (pa_cons (pe_un un_neg pe_int) (pa_cons pe_int pa_nil)))) (pa_cons (pe_tup (pa_cons pe_str (pa_cons pe_int (pa_cons pe_int pa_nil)))) pa_nil)))))
      (pss_cons (ps_set (i := 2) sc_law_bounds.nd rfl (Or.inl rfl) (pe_op op_cat (pe_op op_cat (pe_op op_cat (pe_op op_cat (pe_op op_cat (pe_lst (pa_cons (pe_tup (pa_cons pe_str (pa_cons (pe_un un_neg pe_int) (pa_cons pe_int pa_nil)))) pa_nil)) (pv 0)) (pe_lst (pa_cons (pe_tup (pa_cons pe_str (pa_cons pe_int (pa_cons pe_int pa_nil)))) pa_nil))) (pv 0)) (pe_lst (pa_cons (pe_tup (pa_cons pe_str (pa_cons (pe_un un_neg pe_int) (pa_cons pe_int pa_nil)))) pa_nil))) (pv 0)))
      (pss_one (ps_ret (pe_op op_cat (pe_op op_cat (pe_op op_cat (pe_op op_cat (pv 2) (pe_lst (pa_cons (pe_tup (pa_cons pe_str (pa_cons pe_int (pa_cons pe_int pa_nil)))) pa_nil))) (pv 1)) (pv 1)) (pe_lst (pa_cons (pe_tup (pa_cons pe_str (pa_cons pe_int (pa_cons pe_int pa_nil)))) (pa_cons (pe_tup (pa_cons pe_str (pa_cons pe_int (pa_cons pe_int pa_nil)))) pa_nil))))))))), ?_⟩
    have sH : Same H H := Same.refl H
    refine ⟨_, rfl, sz3, fun t1 ht1 => ?_⟩
    obtain ⟨G1, e1⟩ : ∃ L, L = upd H t1 (.tup [.str "i", .int (-12), .int 12]) := ⟨_, rfl⟩
    rw [← e1]
    have f1_t1 : G1 t1 = some (.tup [.str "i", .int (-12), .int 12]) := by rw [e1]; exact upd_same
    have s1 : Same H G1 := by rw [e1]; exact Same.new _ sH ht1
    refine ⟨_, rfl, sz3, fun t2 ht2 => ?_⟩
    obtain ⟨G2, e2⟩ : ∃ L, L = upd G1 t2 (.tup [.str "n", .int (-12), .int 12]) := ⟨_, rfl⟩
    rw [← e2]
    have f2_t1 : G2 t1 = some (.tup [.str "i", .int (-12), .int 12]) := by rw [e2]; exact at_upd _ f1_t1 ht2
    have f2_t2 : G2 t2 = some (.tup [.str "n", .int (-12), .int 12]) := by rw [e2]; exact upd_same
    have s2 : Same H G2 := by rw [e2]; exact Same.new _ s1 ht2
    refine ⟨_, rfl, sz3, fun t3 ht3 => ?_⟩
    obtain ⟨G3, e3⟩ : ∃ L, L = upd G2 t3 (.tup [.str "one", .int (-999), .int 999]) := ⟨_, rfl⟩
    rw [← e3]
    have f3_t1 : G3 t1 = some (.tup [.str "i", .int (-12), .int 12]) := by rw [e3]; exact at_upd _ f2_t1 ht3
    have f3_t2 : G3 t2 = some (.tup [.str "n", .int (-12), .int 12]) := by rw [e3]; exact at_upd _ f2_t2 ht3
    have f3_t3 : G3 t3 = some (.tup [.str "one", .int (-999), .int 999]) := by rw [e3]; exact upd_same
    have s3 : Same H G3 := by rw [e3]; exact Same.new _ s2 ht3
    refine ⟨sz3, fun l1 hl1 => ?_⟩
    obtain ⟨G4, e4⟩ : ∃ L, L = upd G3 l1 (.lst [.ref t1, .ref t2, .ref t3]) := ⟨_, rfl⟩
    rw [← e4]
    have f4_t1 : G4 t1 = some (.tup [.str "i", .int (-12), .int 12]) := by rw [e4]; exact at_upd _ f3_t1 hl1
    have f4_t2 : G4 t2 = some (.tup [.str "n", .int (-12), .int 12]) := by rw [e4]; exact at_upd _ f3_t2 hl1
    have f4_t3 : G4 t3 = some (.tup [.str "one", .int (-999), .int 999]) := by rw [e4]; exact at_upd _ f3_t3 hl1
    have f4_l1 : G4 l1 = some (.lst [.ref t1, .ref t2, .ref t3]) := by rw [e4]; exact upd_same
    have s4 : Same H G4 := by rw [e4]; exact Same.new _ s3 hl1
    refine ⟨sz3, fun u1 hu1 => ?_⟩
    obtain ⟨G5, e5⟩ : ∃ L, L = upd G4 u1 (.tup [.str "n", .int (0), .int 3]) := ⟨_, rfl⟩
    rw [← e5]
    have f5_t1 : G5 t1 = some (.tup [.str "i", .int (-12), .int 12]) := by rw [e5]; exact at_upd _ f4_t1 hu1
    have f5_t2 : G5 t2 = some (.tup [.str "n", .int (-12), .int 12]) := by rw [e5]; exact at_upd _ f4_t2 hu1
    have f5_t3 : G5 t3 = some (.tup [.str "one", .int (-999), .int 999]) := by rw [e5]; exact at_upd _ f4_t3 hu1
    have f5_l1 : G5 l1 = some (.lst [.ref t1, .ref t2, .ref t3]) := by rw [e5]; exact at_upd _ f4_l1 hu1
    have f5_u1 : G5 u1 = some (.tup [.str "n", .int (0), .int 3]) := by rw [e5]; exact upd_same
    have s5 : Same H G5 := by rw [e5]; exact Same.new _ s4 hu1
    refine ⟨_, rfl, sz3, fun u2 hu2 => ?_⟩
    obtain ⟨G6, e6⟩ : ∃ L, L = upd G5 u2 (.tup [.str "one", .int (-999), .int 999]) := ⟨_, rfl⟩
    rw [← e6]
    have f6_t1 : G6 t1 = some (.tup [.str "i", .int (-12), .int 12]) := by rw [e6]; exact at_upd _ f5_t1 hu2
    have f6_t2 : G6 t2 = some (.tup [.str "n", .int (-12), .int 12]) := by rw [e6]; exact at_upd _ f5_t2 hu2
    have f6_t3 : G6 t3 = some (.tup [.str "one", .int (-999), .int 999]) := by rw [e6]; exact at_upd _ f5_t3 hu2
    have f6_l1 : G6 l1 = some (.lst [.ref t1, .ref t2, .ref t3]) := by rw [e6]; exact at_upd _ f5_l1 hu2
    have f6_u1 : G6 u1 = some (.tup [.str "n", .int (0), .int 3]) := by rw [e6]; exact at_upd _ f5_u1 hu2
    have f6_u2 : G6 u2 = some (.tup [.str "one", .int (-999), .int 999]) := by rw [e6]; exact upd_same
    have s6 : Same H G6 := by rw [e6]; exact Same.new _ s5 hu2
    refine ⟨sz3, fun u3 hu3 => ?_⟩
    obtain ⟨G7, e7⟩ : ∃ L, L = upd G6 u3 (.tup [.str "divisor", .int (1), .int 3]) := ⟨_, rfl⟩
    rw [← e7]
    have f7_t1 : G7 t1 = some (.tup [.str "i", .int (-12), .int 12]) := by rw [e7]; exact at_upd _ f6_t1 hu3
    have f7_t2 : G7 t2 = some (.tup [.str "n", .int (-12), .int 12]) := by rw [e7]; exact at_upd _ f6_t2 hu3
    have f7_t3 : G7 t3 = some (.tup [.str "one", .int (-999), .int 999]) := by rw [e7]; exact at_upd _ f6_t3 hu3
    have f7_l1 : G7 l1 = some (.lst [.ref t1, .ref t2, .ref t3]) := by rw [e7]; exact at_upd _ f6_l1 hu3
    have f7_u1 : G7 u1 = some (.tup [.str "n", .int (0), .int 3]) := by rw [e7]; exact at_upd _ f6_u1 hu3
    have f7_u2 : G7 u2 = some (.tup [.str "one", .int (-999), .int 999]) := by rw [e7]; exact at_upd _ f6_u2 hu3
    have f7_u3 : G7 u3 = some (.tup [.str "divisor", .int (1), .int 3]) := by rw [e7]; exact upd_same
    have s7 : Same H G7 := by rw [e7]; exact Same.new _ s6 hu3
    refine ⟨sz3, fun l2 hl2 => ?_⟩
    obtain ⟨G8, e8⟩ : ∃ L, L = upd G7 l2 (.lst [.ref u1, .ref u2, .ref u3]) := ⟨_, rfl⟩
    rw [← e8]
    have f8_t1 : G8 t1 = some (.tup [.str "i", .int (-12), .int 12]) := by rw [e8]; exact at_upd _ f7_t1 hl2
    have f8_t2 : G8 t2 = some (.tup [.str "n", .int (-12), .int 12]) := by rw [e8]; exact at_upd _ f7_t2 hl2
    have f8_t3 : G8 t3 = some (.tup [.str "one", .int (-999), .int 999]) := by rw [e8]; exact at_upd _ f7_t3 hl2
    have f8_l1 : G8 l1 = some (.lst [.ref t1, .ref t2, .ref t3]) := by rw [e8]; exact at_upd _ f7_l1 hl2
    have f8_u1 : G8 u1 = some (.tup [.str "n", .int (0), .int 3]) := by rw [e8]; exact at_upd _ f7_u1 hl2
    have f8_u2 : G8 u2 = some (.tup [.str "one", .int (-999), .int 999]) := by rw [e8]; exact at_upd _ f7_u2 hl2
    have f8_u3 : G8 u3 = some (.tup [.str "divisor", .int (1), .int 3]) := by rw [e8]; exact at_upd _ f7_u3 hl2
    have f8_l2 : G8 l2 = some (.lst [.ref u1, .ref u2, .ref u3]) := by rw [e8]; exact upd_same
    have s8 : Same H G8 := by rw [e8]; exact Same.new _ s7 hl2
    refine ⟨_, rfl, sz3, fun a1 ha1 => ?_⟩
    obtain ⟨G9, e9⟩ : ∃ L, L = upd G8 a1 (.tup [.str "factor", .int (-999), .int 999]) := ⟨_, rfl⟩
    rw [← e9]
    have f9_t1 : G9 t1 = some (.tup [.str "i", .int (-12), .int 12]) := by rw [e9]; exact at_upd _ f8_t1 ha1
    have f9_t2 : G9 t2 = some (.tup [.str "n", .int (-12), .int 12]) := by rw [e9]; exact at_upd _ f8_t2 ha1
    have f9_t3 : G9 t3 = some (.tup [.str "one", .int (-999), .int 999]) := by rw [e9]; exact at_upd _ f8_t3 ha1
    have f9_l1 : G9 l1 = some (.lst [.ref t1, .ref t2, .ref t3]) := by rw [e9]; exact at_upd _ f8_l1 ha1
    have f9_u1 : G9 u1 = some (.tup [.str "n", .int (0), .int 3]) := by rw [e9]; exact at_upd _ f8_u1 ha1
    have f9_u2 : G9 u2 = some (.tup [.str "one", .int (-999), .int 999]) := by rw [e9]; exact at_upd _ f8_u2 ha1
    have f9_u3 : G9 u3 = some (.tup [.str "divisor", .int (1), .int 3]) := by rw [e9]; exact at_upd _ f8_u3 ha1
    have f9_l2 : G9 l2 = some (.lst [.ref u1, .ref u2, .ref u3]) := by rw [e9]; exact at_upd _ f8_l2 ha1
    have f9_a1 : G9 a1 = some (.tup [.str "factor", .int (-999), .int 999]) := by rw [e9]; exact upd_same
    have s9 : Same H G9 := by rw [e9]; exact Same.new _ s8 ha1
    refine ⟨sz1, fun l3 hl3 => ?_⟩
    obtain ⟨G10, e10⟩ : ∃ L, L = upd G9 l3 (.lst [.ref a1]) := ⟨_, rfl⟩
    rw [← e10]
    have f10_t1 : G10 t1 = some (.tup [.str "i", .int (-12), .int 12]) := by rw [e10]; exact at_upd _ f9_t1 hl3
    have f10_t2 : G10 t2 = some (.tup [.str "n", .int (-12), .int 12]) := by rw [e10]; exact at_upd _ f9_t2 hl3
    have f10_t3 : G10 t3 = some (.tup [.str "one", .int (-999), .int 999]) := by rw [e10]; exact at_upd _ f9_t3 hl3
    have f10_l1 : G10 l1 = some (.lst [.ref t1, .ref t2, .ref t3]) := by rw [e10]; exact at_upd _ f9_l1 hl3
    have f10_u1 : G10 u1 = some (.tup [.str "n", .int (0), .int 3]) := by rw [e10]; exact at_upd _ f9_u1 hl3
    have f10_u2 : G10 u2 = some (.tup [.str "one", .int (-999), .int 999]) := by rw [e10]; exact at_upd _ f9_u2 hl3
    have f10_u3 : G10 u3 = some (.tup [.str "divisor", .int (1), .int 3]) := by rw [e10]; exact at_upd _ f9_u3 hl3
    have f10_l2 : G10 l2 = some (.lst [.ref u1, .ref u2, .ref u3]) := by rw [e10]; exact at_upd _ f9_l2 hl3
    have f10_a1 : G10 a1 = some (.tup [.str "factor", .int (-999), .int 999]) := by rw [e10]; exact at_upd _ f9_a1 hl3
    have f10_l3 : G10 l3 = some (.lst [.ref a1]) := by rw [e10]; exact upd_same
    have s10 : Same H G10 := by rw [e10]; exact Same.new _ s9 hl3
    refine ⟨_, rfl, l3, l1, _, _, rfl, rfl, f10_l3, f10_l1, (by show 4 ≤ sizeLine; decide), fun c1 hc1 => ?_⟩
    obtain ⟨G11, e11⟩ : ∃ L, L = upd G10 c1 (.lst ([.ref a1] ++ [.ref t1, .ref t2, .ref t3])) := ⟨_, rfl⟩
    rw [← e11]
    have f11_t1 : G11 t1 = some (.tup [.str "i", .int (-12), .int 12]) := by rw [e11]; exact at_upd _ f10_t1 hc1
    have f11_t2 : G11 t2 = some (.tup [.str "n", .int (-12), .int 12]) := by rw [e11]; exact at_upd _ f10_t2 hc1
    have f11_t3 : G11 t3 = some (.tup [.str "one", .int (-999), .int 999]) := by rw [e11]; exact at_upd _ f10_t3 hc1
    have f11_l1 : G11 l1 = some (.lst [.ref t1, .ref t2, .ref t3]) := by rw [e11]; exact at_upd _ f10_l1 hc1
    have f11_u1 : G11 u1 = some (.tup [.str "n", .int (0), .int 3]) := by rw [e11]; exact at_upd _ f10_u1 hc1
    have f11_u2 : G11 u2 = some (.tup [.str "one", .int (-999), .int 999]) := by rw [e11]; exact at_upd _ f10_u2 hc1
    have f11_u3 : G11 u3 = some (.tup [.str "divisor", .int (1), .int 3]) := by rw [e11]; exact at_upd _ f10_u3 hc1
    have f11_l2 : G11 l2 = some (.lst [.ref u1, .ref u2, .ref u3]) := by rw [e11]; exact at_upd _ f10_l2 hc1
    have f11_a1 : G11 a1 = some (.tup [.str "factor", .int (-999), .int 999]) := by rw [e11]; exact at_upd _ f10_a1 hc1
    have f11_l3 : G11 l3 = some (.lst [.ref a1]) := by rw [e11]; exact at_upd _ f10_l3 hc1
    have f11_c1 : G11 c1 = some (.lst ([.ref a1] ++ [.ref t1, .ref t2, .ref t3])) := by rw [e11]; exact upd_same
    have s11 : Same H G11 := by rw [e11]; exact Same.new _ s10 hc1
    have pc1 : G11 c1 = some (.lst [.ref a1, .ref t1, .ref t2, .ref t3]) := f11_c1
    refine ⟨sz3, fun a2 ha2 => ?_⟩
    obtain ⟨G12, e12⟩ : ∃ L, L = upd G11 a2 (.tup [.str "divisor", .int (1), .int 3]) := ⟨_, rfl⟩
    rw [← e12]
    have f12_t1 : G12 t1 = some (.tup [.str "i", .int (-12), .int 12]) := by rw [e12]; exact at_upd _ f11_t1 ha2
    have f12_t2 : G12 t2 = some (.tup [.str "n", .int (-12), .int 12]) := by rw [e12]; exact at_upd _ f11_t2 ha2
    have f12_t3 : G12 t3 = some (.tup [.str "one", .int (-999), .int 999]) := by rw [e12]; exact at_upd _ f11_t3 ha2
    have f12_l1 : G12 l1 = some (.lst [.ref t1, .ref t2, .ref t3]) := by rw [e12]; exact at_upd _ f11_l1 ha2
    have f12_u1 : G12 u1 = some (.tup [.str "n", .int (0), .int 3]) := by rw [e12]; exact at_upd _ f11_u1 ha2
    have f12_u2 : G12 u2 = some (.tup [.str "one", .int (-999), .int 999]) := by rw [e12]; exact at_upd _ f11_u2 ha2
    have f12_u3 : G12 u3 = some (.tup [.str "divisor", .int (1), .int 3]) := by rw [e12]; exact at_upd _ f11_u3 ha2
    have f12_l2 : G12 l2 = some (.lst [.ref u1, .ref u2, .ref u3]) := by rw [e12]; exact at_upd _ f11_l2 ha2
    have f12_a1 : G12 a1 = some (.tup [.str "factor", .int (-999), .int 999]) := by rw [e12]; exact at_upd _ f11_a1 ha2
    have f12_l3 : G12 l3 = some (.lst [.ref a1]) := by rw [e12]; exact at_upd _ f11_l3 ha2
    have f12_c1 : G12 c1 = some (.lst [.ref a1, .ref t1, .ref t2, .ref t3]) := by rw [e12]; exact at_upd _ pc1 ha2
    have f12_a2 : G12 a2 = some (.tup [.str "divisor", .int (1), .int 3]) := by rw [e12]; exact upd_same
    have s12 : Same H G12 := by rw [e12]; exact Same.new _ s11 ha2
    refine ⟨sz1, fun l4 hl4 => ?_⟩
    obtain ⟨G13, e13⟩ : ∃ L, L = upd G12 l4 (.lst [.ref a2]) := ⟨_, rfl⟩
    rw [← e13]
    have f13_t1 : G13 t1 = some (.tup [.str "i", .int (-12), .int 12]) := by rw [e13]; exact at_upd _ f12_t1 hl4
    have f13_t2 : G13 t2 = some (.tup [.str "n", .int (-12), .int 12]) := by rw [e13]; exact at_upd _ f12_t2 hl4
    have f13_t3 : G13 t3 = some (.tup [.str "one", .int (-999), .int 999]) := by rw [e13]; exact at_upd _ f12_t3 hl4
    have f13_l1 : G13 l1 = some (.lst [.ref t1, .ref t2, .ref t3]) := by rw [e13]; exact at_upd _ f12_l1 hl4
    have f13_u1 : G13 u1 = some (.tup [.str "n", .int (0), .int 3]) := by rw [e13]; exact at_upd _ f12_u1 hl4
    have f13_u2 : G13 u2 = some (.tup [.str "one", .int (-999), .int 999]) := by rw [e13]; exact at_upd _ f12_u2 hl4
    have f13_u3 : G13 u3 = some (.tup [.str "divisor", .int (1), .int 3]) := by rw [e13]; exact at_upd _ f12_u3 hl4
    have f13_l2 : G13 l2 = some (.lst [.ref u1, .ref u2, .ref u3]) := by rw [e13]; exact at_upd _ f12_l2 hl4
    have f13_a1 : G13 a1 = some (.tup [.str "factor", .int (-999), .int 999]) := by rw [e13]; exact at_upd _ f12_a1 hl4
    have f13_l3 : G13 l3 = some (.lst [.ref a1]) := by rw [e13]; exact at_upd _ f12_l3 hl4
    have f13_c1 : G13 c1 = some (.lst [.ref a1, .ref t1, .ref t2, .ref t3]) := by rw [e13]; exact at_upd _ f12_c1 hl4
    have f13_a2 : G13 a2 = some (.tup [.str "divisor", .int (1), .int 3]) := by rw [e13]; exact at_upd _ f12_a2 hl4
    have f13_l4 : G13 l4 = some (.lst [.ref a2]) := by rw [e13]; exact upd_same
    have s13 : Same H G13 := by rw [e13]; exact Same.new _ s12 hl4
    refine ⟨c1, l4, _, _, rfl, rfl, f13_c1, f13_l4, (by show 5 ≤ sizeLine; decide), fun c2 hc2 => ?_⟩
    obtain ⟨G14, e14⟩ : ∃ L, L = upd G13 c2 (.lst ([.ref a1, .ref t1, .ref t2, .ref t3] ++ [.ref a2])) := ⟨_, rfl⟩
    rw [← e14]
    have f14_t1 : G14 t1 = some (.tup [.str "i", .int (-12), .int 12]) := by rw [e14]; exact at_upd _ f13_t1 hc2
    have f14_t2 : G14 t2 = some (.tup [.str "n", .int (-12), .int 12]) := by rw [e14]; exact at_upd _ f13_t2 hc2
    have f14_t3 : G14 t3 = some (.tup [.str "one", .int (-999), .int 999]) := by rw [e14]; exact at_upd _ f13_t3 hc2
    have f14_l1 : G14 l1 = some (.lst [.ref t1, .ref t2, .ref t3]) := by rw [e14]; exact at_upd _ f13_l1 hc2
    have f14_u1 : G14 u1 = some (.tup [.str "n", .int (0), .int 3]) := by rw [e14]; exact at_upd _ f13_u1 hc2
    have f14_u2 : G14 u2 = some (.tup [.str "one", .int (-999), .int 999]) := by rw [e14]; exact at_upd _ f13_u2 hc2
    have f14_u3 : G14 u3 = some (.tup [.str "divisor", .int (1), .int 3]) := by rw [e14]; exact at_upd _ f13_u3 hc2
    have f14_l2 : G14 l2 = some (.lst [.ref u1, .ref u2, .ref u3]) := by rw [e14]; exact at_upd _ f13_l2 hc2
    have f14_a1 : G14 a1 = some (.tup [.str "factor", .int (-999), .int 999]) := by rw [e14]; exact at_upd _ f13_a1 hc2
    have f14_l3 : G14 l3 = some (.lst [.ref a1]) := by rw [e14]; exact at_upd _ f13_l3 hc2
    have f14_c1 : G14 c1 = some (.lst [.ref a1, .ref t1, .ref t2, .ref t3]) := by rw [e14]; exact at_upd _ f13_c1 hc2
    have f14_a2 : G14 a2 = some (.tup [.str "divisor", .int (1), .int 3]) := by rw [e14]; exact at_upd _ f13_a2 hc2
    have f14_l4 : G14 l4 = some (.lst [.ref a2]) := by rw [e14]; exact at_upd _ f13_l4 hc2
    have f14_c2 : G14 c2 = some (.lst ([.ref a1, .ref t1, .ref t2, .ref t3] ++ [.ref a2])) := by rw [e14]; exact upd_same
    have s14 : Same H G14 := by rw [e14]; exact Same.new _ s13 hc2
    have pc2 : G14 c2 = some (.lst [.ref a1, .ref t1, .ref t2, .ref t3, .ref a2]) := f14_c2
    refine ⟨_, rfl, c2, l1, _, _, rfl, rfl, pc2, f14_l1, (by show 8 ≤ sizeLine; decide), fun c3 hc3 => ?_⟩
    obtain ⟨G15, e15⟩ : ∃ L, L = upd G14 c3 (.lst ([.ref a1, .ref t1, .ref t2, .ref t3, .ref a2] ++ [.ref t1, .ref t2, .ref t3])) := ⟨_, rfl⟩
    rw [← e15]
    have f15_t1 : G15 t1 = some (.tup [.str "i", .int (-12), .int 12]) := by rw [e15]; exact at_upd _ f14_t1 hc3
    have f15_t2 : G15 t2 = some (.tup [.str "n", .int (-12), .int 12]) := by rw [e15]; exact at_upd _ f14_t2 hc3
    have f15_t3 : G15 t3 = some (.tup [.str "one", .int (-999), .int 999]) := by rw [e15]; exact at_upd _ f14_t3 hc3
    have f15_l1 : G15 l1 = some (.lst [.ref t1, .ref t2, .ref t3]) := by rw [e15]; exact at_upd _ f14_l1 hc3
    have f15_u1 : G15 u1 = some (.tup [.str "n", .int (0), .int 3]) := by rw [e15]; exact at_upd _ f14_u1 hc3
    have f15_u2 : G15 u2 = some (.tup [.str "one", .int (-999), .int 999]) := by rw [e15]; exact at_upd _ f14_u2 hc3
    have f15_u3 : G15 u3 = some (.tup [.str "divisor", .int (1), .int 3]) := by rw [e15]; exact at_upd _ f14_u3 hc3
    have f15_l2 : G15 l2 = some (.lst [.ref u1, .ref u2, .ref u3]) := by rw [e15]; exact at_upd _ f14_l2 hc3
    have f15_a1 : G15 a1 = some (.tup [.str "factor", .int (-999), .int 999]) := by rw [e15]; exact at_upd _ f14_a1 hc3
    have f15_l3 : G15 l3 = some (.lst [.ref a1]) := by rw [e15]; exact at_upd _ f14_l3 hc3
    have f15_c1 : G15 c1 = some (.lst [.ref a1, .ref t1, .ref t2, .ref t3]) := by rw [e15]; exact at_upd _ f14_c1 hc3
    have f15_a2 : G15 a2 = some (.tup [.str "divisor", .int (1), .int 3]) := by rw [e15]; exact at_upd _ f14_a2 hc3
    have f15_l4 : G15 l4 = some (.lst [.ref a2]) := by rw [e15]; exact at_upd _ f14_l4 hc3
    have f15_c2 : G15 c2 = some (.lst [.ref a1, .ref t1, .ref t2, .ref t3, .ref a2]) := by rw [e15]; exact at_upd _ pc2 hc3
    have f15_c3 : G15 c3 = some (.lst ([.ref a1, .ref t1, .ref t2, .ref t3, .ref a2] ++ [.ref t1, .ref t2, .ref t3])) := by rw [e15]; exact upd_same
    have s15 : Same H G15 := by rw [e15]; exact Same.new _ s14 hc3
    have pc3 : G15 c3 = some (.lst [.ref a1, .ref t1, .ref t2, .ref t3, .ref a2, .ref t1, .ref t2, .ref t3]) := f15_c3
    refine ⟨_, rfl, sz3, fun a3 ha3 => ?_⟩
    obtain ⟨G16, e16⟩ : ∃ L, L = upd G15 a3 (.tup [.str "constant", .int (-999), .int 999]) := ⟨_, rfl⟩
    rw [← e16]
    have f16_t1 : G16 t1 = some (.tup [.str "i", .int (-12), .int 12]) := by rw [e16]; exact at_upd _ f15_t1 ha3
    have f16_t2 : G16 t2 = some (.tup [.str "n", .int (-12), .int 12]) := by rw [e16]; exact at_upd _ f15_t2 ha3
    have f16_t3 : G16 t3 = some (.tup [.str "one", .int (-999), .int 999]) := by rw [e16]; exact at_upd _ f15_t3 ha3
    have f16_l1 : G16 l1 = some (.lst [.ref t1, .ref t2, .ref t3]) := by rw [e16]; exact at_upd _ f15_l1 ha3
    have f16_u1 : G16 u1 = some (.tup [.str "n", .int (0), .int 3]) := by rw [e16]; exact at_upd _ f15_u1 ha3
    have f16_u2 : G16 u2 = some (.tup [.str "one", .int (-999), .int 999]) := by rw [e16]; exact at_upd _ f15_u2 ha3
    have f16_u3 : G16 u3 = some (.tup [.str "divisor", .int (1), .int 3]) := by rw [e16]; exact at_upd _ f15_u3 ha3
    have f16_l2 : G16 l2 = some (.lst [.ref u1, .ref u2, .ref u3]) := by rw [e16]; exact at_upd _ f15_l2 ha3
    have f16_a1 : G16 a1 = some (.tup [.str "factor", .int (-999), .int 999]) := by rw [e16]; exact at_upd _ f15_a1 ha3
    have f16_l3 : G16 l3 = some (.lst [.ref a1]) := by rw [e16]; exact at_upd _ f15_l3 ha3
    have f16_c1 : G16 c1 = some (.lst [.ref a1, .ref t1, .ref t2, .ref t3]) := by rw [e16]; exact at_upd _ f15_c1 ha3
    have f16_a2 : G16 a2 = some (.tup [.str "divisor", .int (1), .int 3]) := by rw [e16]; exact at_upd _ f15_a2 ha3
    have f16_l4 : G16 l4 = some (.lst [.ref a2]) := by rw [e16]; exact at_upd _ f15_l4 ha3
    have f16_c2 : G16 c2 = some (.lst [.ref a1, .ref t1, .ref t2, .ref t3, .ref a2]) := by rw [e16]; exact at_upd _ f15_c2 ha3
    have f16_c3 : G16 c3 = some (.lst [.ref a1, .ref t1, .ref t2, .ref t3, .ref a2, .ref t1, .ref t2, .ref t3]) := by rw [e16]; exact at_upd _ pc3 ha3
    have f16_a3 : G16 a3 = some (.tup [.str "constant", .int (-999), .int 999]) := by rw [e16]; exact upd_same
    have s16 : Same H G16 := by rw [e16]; exact Same.new _ s15 ha3
    refine ⟨sz1, fun l5 hl5 => ?_⟩
    obtain ⟨G17, e17⟩ : ∃ L, L = upd G16 l5 (.lst [.ref a3]) := ⟨_, rfl⟩
    rw [← e17]
    have f17_t1 : G17 t1 = some (.tup [.str "i", .int (-12), .int 12]) := by rw [e17]; exact at_upd _ f16_t1 hl5
    have f17_t2 : G17 t2 = some (.tup [.str "n", .int (-12), .int 12]) := by rw [e17]; exact at_upd _ f16_t2 hl5
    have f17_t3 : G17 t3 = some (.tup [.str "one", .int (-999), .int 999]) := by rw [e17]; exact at_upd _ f16_t3 hl5
    have f17_l1 : G17 l1 = some (.lst [.ref t1, .ref t2, .ref t3]) := by rw [e17]; exact at_upd _ f16_l1 hl5
    have f17_u1 : G17 u1 = some (.tup [.str "n", .int (0), .int 3]) := by rw [e17]; exact at_upd _ f16_u1 hl5
    have f17_u2 : G17 u2 = some (.tup [.str "one", .int (-999), .int 999]) := by rw [e17]; exact at_upd _ f16_u2 hl5
    have f17_u3 : G17 u3 = some (.tup [.str "divisor", .int (1), .int 3]) := by rw [e17]; exact at_upd _ f16_u3 hl5
    have f17_l2 : G17 l2 = some (.lst [.ref u1, .ref u2, .ref u3]) := by rw [e17]; exact at_upd _ f16_l2 hl5
    have f17_a1 : G17 a1 = some (.tup [.str "factor", .int (-999), .int 999]) := by rw [e17]; exact at_upd _ f16_a1 hl5
    have f17_l3 : G17 l3 = some (.lst [.ref a1]) := by rw [e17]; exact at_upd _ f16_l3 hl5
    have f17_c1 : G17 c1 = some (.lst [.ref a1, .ref t1, .ref t2, .ref t3]) := by rw [e17]; exact at_upd _ f16_c1 hl5
    have f17_a2 : G17 a2 = some (.tup [.str "divisor", .int (1), .int 3]) := by rw [e17]; exact at_upd _ f16_a2 hl5
    have f17_l4 : G17 l4 = some (.lst [.ref a2]) := by rw [e17]; exact at_upd _ f16_l4 hl5
    have f17_c2 : G17 c2 = some (.lst [.ref a1, .ref t1, .ref t2, .ref t3, .ref a2]) := by rw [e17]; exact at_upd _ f16_c2 hl5
    have f17_c3 : G17 c3 = some (.lst [.ref a1, .ref t1, .ref t2, .ref t3, .ref a2, .ref t1, .ref t2, .ref t3]) := by rw [e17]; exact at_upd _ f16_c3 hl5
    have f17_a3 : G17 a3 = some (.tup [.str "constant", .int (-999), .int 999]) := by rw [e17]; exact at_upd _ f16_a3 hl5
    have f17_l5 : G17 l5 = some (.lst [.ref a3]) := by rw [e17]; exact upd_same
    have s17 : Same H G17 := by rw [e17]; exact Same.new _ s16 hl5
    refine ⟨c3, l5, _, _, rfl, rfl, f17_c3, f17_l5, (by show 9 ≤ sizeLine; decide), fun c4 hc4 => ?_⟩
    obtain ⟨G18, e18⟩ : ∃ L, L = upd G17 c4 (.lst ([.ref a1, .ref t1, .ref t2, .ref t3, .ref a2, .ref t1, .ref t2, .ref t3] ++ [.ref a3])) := ⟨_, rfl⟩
    rw [← e18]
    have f18_t1 : G18 t1 = some (.tup [.str "i", .int (-12), .int 12]) := by rw [e18]; exact at_upd _ f17_t1 hc4
    have f18_t2 : G18 t2 = some (.tup [.str "n", .int (-12), .int 12]) := by rw [e18]; exact at_upd _ f17_t2 hc4
    have f18_t3 : G18 t3 = some (.tup [.str "one", .int (-999), .int 999]) := by rw [e18]; exact at_upd _ f17_t3 hc4
    have f18_l1 : G18 l1 = some (.lst [.ref t1, .ref t2, .ref t3]) := by rw [e18]; exact at_upd _ f17_l1 hc4
    have f18_u1 : G18 u1 = some (.tup [.str "n", .int (0), .int 3]) := by rw [e18]; exact at_upd _ f17_u1 hc4
    have f18_u2 : G18 u2 = some (.tup [.str "one", .int (-999), .int 999]) := by rw [e18]; exact at_upd _ f17_u2 hc4
    have f18_u3 : G18 u3 = some (.tup [.str "divisor", .int (1), .int 3]) := by rw [e18]; exact at_upd _ f17_u3 hc4
    have f18_l2 : G18 l2 = some (.lst [.ref u1, .ref u2, .ref u3]) := by rw [e18]; exact at_upd _ f17_l2 hc4
    have f18_a1 : G18 a1 = some (.tup [.str "factor", .int (-999), .int 999]) := by rw [e18]; exact at_upd _ f17_a1 hc4
    have f18_l3 : G18 l3 = some (.lst [.ref a1]) := by rw [e18]; exact at_upd _ f17_l3 hc4
    have f18_c1 : G18 c1 = some (.lst [.ref a1, .ref t1, .ref t2, .ref t3]) := by rw [e18]; exact at_upd _ f17_c1 hc4
    have f18_a2 : G18 a2 = some (.tup [.str "divisor", .int (1), .int 3]) := by rw [e18]; exact at_upd _ f17_a2 hc4
    have f18_l4 : G18 l4 = some (.lst [.ref a2]) := by rw [e18]; exact at_upd _ f17_l4 hc4
    have f18_c2 : G18 c2 = some (.lst [.ref a1, .ref t1, .ref t2, .ref t3, .ref a2]) := by rw [e18]; exact at_upd _ f17_c2 hc4
    have f18_c3 : G18 c3 = some (.lst [.ref a1, .ref t1, .ref t2, .ref t3, .ref a2, .ref t1, .ref t2, .ref t3]) := by rw [e18]; exact at_upd _ f17_c3 hc4
    have f18_a3 : G18 a3 = some (.tup [.str "constant", .int (-999), .int 999]) := by rw [e18]; exact at_upd _ f17_a3 hc4
    have f18_l5 : G18 l5 = some (.lst [.ref a3]) := by rw [e18]; exact at_upd _ f17_l5 hc4
    have f18_c4 : G18 c4 = some (.lst ([.ref a1, .ref t1, .ref t2, .ref t3, .ref a2, .ref t1, .ref t2, .ref t3] ++ [.ref a3])) := by rw [e18]; exact upd_same
    have s18 : Same H G18 := by rw [e18]; exact Same.new _ s17 hc4
    have pc4 : G18 c4 = some (.lst [.ref a1, .ref t1, .ref t2, .ref t3, .ref a2, .ref t1, .ref t2, .ref t3, .ref a3]) := f18_c4
    refine ⟨_, rfl, c4, l1, _, _, rfl, rfl, pc4, f18_l1, (by show 12 ≤ sizeLine; decide), fun c5 hc5 => ?_⟩
    obtain ⟨G19, e19⟩ : ∃ L, L = upd G18 c5 (.lst ([.ref a1, .ref t1, .ref t2, .ref t3, .ref a2, .ref t1, .ref t2, .ref t3, .ref a3] ++ [.ref t1, .ref t2, .ref t3])) := ⟨_, rfl⟩
    rw [← e19]
    have f19_t1 : G19 t1 = some (.tup [.str "i", .int (-12), .int 12]) := by rw [e19]; exact at_upd _ f18_t1 hc5
    have f19_t2 : G19 t2 = some (.tup [.str "n", .int (-12), .int 12]) := by rw [e19]; exact at_upd _ f18_t2 hc5
    have f19_t3 : G19 t3 = some (.tup [.str "one", .int (-999), .int 999]) := by rw [e19]; exact at_upd _ f18_t3 hc5
    have f19_l1 : G19 l1 = some (.lst [.ref t1, .ref t2, .ref t3]) := by rw [e19]; exact at_upd _ f18_l1 hc5
    have f19_u1 : G19 u1 = some (.tup [.str "n", .int (0), .int 3]) := by rw [e19]; exact at_upd _ f18_u1 hc5
    have f19_u2 : G19 u2 = some (.tup [.str "one", .int (-999), .int 999]) := by rw [e19]; exact at_upd _ f18_u2 hc5
    have f19_u3 : G19 u3 = some (.tup [.str "divisor", .int (1), .int 3]) := by rw [e19]; exact at_upd _ f18_u3 hc5
    have f19_l2 : G19 l2 = some (.lst [.ref u1, .ref u2, .ref u3]) := by rw [e19]; exact at_upd _ f18_l2 hc5
    have f19_a1 : G19 a1 = some (.tup [.str "factor", .int (-999), .int 999]) := by rw [e19]; exact at_upd _ f18_a1 hc5
    have f19_l3 : G19 l3 = some (.lst [.ref a1]) := by rw [e19]; exact at_upd _ f18_l3 hc5
    have f19_c1 : G19 c1 = some (.lst [.ref a1, .ref t1, .ref t2, .ref t3]) := by rw [e19]; exact at_upd _ f18_c1 hc5
    have f19_a2 : G19 a2 = some (.tup [.str "divisor", .int (1), .int 3]) := by rw [e19]; exact at_upd _ f18_a2 hc5
    have f19_l4 : G19 l4 = some (.lst [.ref a2]) := by rw [e19]; exact at_upd _ f18_l4 hc5
    have f19_c2 : G19 c2 = some (.lst [.ref a1, .ref t1, .ref t2, .ref t3, .ref a2]) := by rw [e19]; exact at_upd _ f18_c2 hc5
    have f19_c3 : G19 c3 = some (.lst [.ref a1, .ref t1, .ref t2, .ref t3, .ref a2, .ref t1, .ref t2, .ref t3]) := by rw [e19]; exact at_upd _ f18_c3 hc5
    have f19_a3 : G19 a3 = some (.tup [.str "constant", .int (-999), .int 999]) := by rw [e19]; exact at_upd _ f18_a3 hc5
    have f19_l5 : G19 l5 = some (.lst [.ref a3]) := by rw [e19]; exact at_upd _ f18_l5 hc5
    have f19_c4 : G19 c4 = some (.lst [.ref a1, .ref t1, .ref t2, .ref t3, .ref a2, .ref t1, .ref t2, .ref t3, .ref a3]) := by rw [e19]; exact at_upd _ pc4 hc5
    have f19_c5 : G19 c5 = some (.lst ([.ref a1, .ref t1, .ref t2, .ref t3, .ref a2, .ref t1, .ref t2, .ref t3, .ref a3] ++ [.ref t1, .ref t2, .ref t3])) := by rw [e19]; exact upd_same
    have s19 : Same H G19 := by rw [e19]; exact Same.new _ s18 hc5
    have pc5 : G19 c5 = some (.lst [.ref a1, .ref t1, .ref t2, .ref t3, .ref a2, .ref t1, .ref t2, .ref t3, .ref a3, .ref t1, .ref t2, .ref t3]) := f19_c5
    refine ⟨_, rfl, sz3, fun a4 ha4 => ?_⟩
    obtain ⟨G20, e20⟩ : ∃ L, L = upd G19 a4 (.tup [.str "step", .int (1), .int 16]) := ⟨_, rfl⟩
    rw [← e20]
    have f20_t1 : G20 t1 = some (.tup [.str "i", .int (-12), .int 12]) := by rw [e20]; exact at_upd _ f19_t1 ha4
    have f20_t2 : G20 t2 = some (.tup [.str "n", .int (-12), .int 12]) := by rw [e20]; exact at_upd _ f19_t2 ha4
    have f20_t3 : G20 t3 = some (.tup [.str "one", .int (-999), .int 999]) := by rw [e20]; exact at_upd _ f19_t3 ha4
    have f20_l1 : G20 l1 = some (.lst [.ref t1, .ref t2, .ref t3]) := by rw [e20]; exact at_upd _ f19_l1 ha4
    have f20_u1 : G20 u1 = some (.tup [.str "n", .int (0), .int 3]) := by rw [e20]; exact at_upd _ f19_u1 ha4
    have f20_u2 : G20 u2 = some (.tup [.str "one", .int (-999), .int 999]) := by rw [e20]; exact at_upd _ f19_u2 ha4
    have f20_u3 : G20 u3 = some (.tup [.str "divisor", .int (1), .int 3]) := by rw [e20]; exact at_upd _ f19_u3 ha4
    have f20_l2 : G20 l2 = some (.lst [.ref u1, .ref u2, .ref u3]) := by rw [e20]; exact at_upd _ f19_l2 ha4
    have f20_a1 : G20 a1 = some (.tup [.str "factor", .int (-999), .int 999]) := by rw [e20]; exact at_upd _ f19_a1 ha4
    have f20_l3 : G20 l3 = some (.lst [.ref a1]) := by rw [e20]; exact at_upd _ f19_l3 ha4
    have f20_c1 : G20 c1 = some (.lst [.ref a1, .ref t1, .ref t2, .ref t3]) := by rw [e20]; exact at_upd _ f19_c1 ha4
    have f20_a2 : G20 a2 = some (.tup [.str "divisor", .int (1), .int 3]) := by rw [e20]; exact at_upd _ f19_a2 ha4
    have f20_l4 : G20 l4 = some (.lst [.ref a2]) := by rw [e20]; exact at_upd _ f19_l4 ha4
    have f20_c2 : G20 c2 = some (.lst [.ref a1, .ref t1, .ref t2, .ref t3, .ref a2]) := by rw [e20]; exact at_upd _ f19_c2 ha4
    have f20_c3 : G20 c3 = some (.lst [.ref a1, .ref t1, .ref t2, .ref t3, .ref a2, .ref t1, .ref t2, .ref t3]) := by rw [e20]; exact at_upd _ f19_c3 ha4
    have f20_a3 : G20 a3 = some (.tup [.str "constant", .int (-999), .int 999]) := by rw [e20]; exact at_upd _ f19_a3 ha4
    have f20_l5 : G20 l5 = some (.lst [.ref a3]) := by rw [e20]; exact at_upd _ f19_l5 ha4
    have f20_c4 : G20 c4 = some (.lst [.ref a1, .ref t1, .ref t2, .ref t3, .ref a2, .ref t1, .ref t2, .ref t3, .ref a3]) := by rw [e20]; exact at_upd _ f19_c4 ha4
    have f20_c5 : G20 c5 = some (.lst [.ref a1, .ref t1, .ref t2, .ref t3, .ref a2, .ref t1, .ref t2, .ref t3, .ref a3, .ref t1, .ref t2, .ref t3]) := by rw [e20]; exact at_upd _ pc5 ha4
    have f20_a4 : G20 a4 = some (.tup [.str "step", .int (1), .int 16]) := by rw [e20]; exact upd_same
    have s20 : Same H G20 := by rw [e20]; exact Same.new _ s19 ha4
    refine ⟨sz1, fun l6 hl6 => ?_⟩
    obtain ⟨G21, e21⟩ : ∃ L, L = upd G20 l6 (.lst [.ref a4]) := ⟨_, rfl⟩
    rw [← e21]
    have f21_t1 : G21 t1 = some (.tup [.str "i", .int (-12), .int 12]) := by rw [e21]; exact at_upd _ f20_t1 hl6
    have f21_t2 : G21 t2 = some (.tup [.str "n", .int (-12), .int 12]) := by rw [e21]; exact at_upd _ f20_t2 hl6
    have f21_t3 : G21 t3 = some (.tup [.str "one", .int (-999), .int 999]) := by rw [e21]; exact at_upd _ f20_t3 hl6
    have f21_l1 : G21 l1 = some (.lst [.ref t1, .ref t2, .ref t3]) := by rw [e21]; exact at_upd _ f20_l1 hl6
    have f21_u1 : G21 u1 = some (.tup [.str "n", .int (0), .int 3]) := by rw [e21]; exact at_upd _ f20_u1 hl6
    have f21_u2 : G21 u2 = some (.tup [.str "one", .int (-999), .int 999]) := by rw [e21]; exact at_upd _ f20_u2 hl6
    have f21_u3 : G21 u3 = some (.tup [.str "divisor", .int (1), .int 3]) := by rw [e21]; exact at_upd _ f20_u3 hl6
    have f21_l2 : G21 l2 = some (.lst [.ref u1, .ref u2, .ref u3]) := by rw [e21]; exact at_upd _ f20_l2 hl6
    have f21_a1 : G21 a1 = some (.tup [.str "factor", .int (-999), .int 999]) := by rw [e21]; exact at_upd _ f20_a1 hl6
    have f21_l3 : G21 l3 = some (.lst [.ref a1]) := by rw [e21]; exact at_upd _ f20_l3 hl6
    have f21_c1 : G21 c1 = some (.lst [.ref a1, .ref t1, .ref t2, .ref t3]) := by rw [e21]; exact at_upd _ f20_c1 hl6
    have f21_a2 : G21 a2 = some (.tup [.str "divisor", .int (1), .int 3]) := by rw [e21]; exact at_upd _ f20_a2 hl6
    have f21_l4 : G21 l4 = some (.lst [.ref a2]) := by rw [e21]; exact at_upd _ f20_l4 hl6
    have f21_c2 : G21 c2 = some (.lst [.ref a1, .ref t1, .ref t2, .ref t3, .ref a2]) := by rw [e21]; exact at_upd _ f20_c2 hl6
    have f21_c3 : G21 c3 = some (.lst [.ref a1, .ref t1, .ref t2, .ref t3, .ref a2, .ref t1, .ref t2, .ref t3]) := by rw [e21]; exact at_upd _ f20_c3 hl6
    have f21_a3 : G21 a3 = some (.tup [.str "constant", .int (-999), .int 999]) := by rw [e21]; exact at_upd _ f20_a3 hl6
    have f21_l5 : G21 l5 = some (.lst [.ref a3]) := by rw [e21]; exact at_upd _ f20_l5 hl6
    have f21_c4 : G21 c4 = some (.lst [.ref a1, .ref t1, .ref t2, .ref t3, .ref a2, .ref t1, .ref t2, .ref t3, .ref a3]) := by rw [e21]; exact at_upd _ f20_c4 hl6
    have f21_c5 : G21 c5 = some (.lst [.ref a1, .ref t1, .ref t2, .ref t3, .ref a2, .ref t1, .ref t2, .ref t3, .ref a3, .ref t1, .ref t2, .ref t3]) := by rw [e21]; exact at_upd _ f20_c5 hl6
    have f21_a4 : G21 a4 = some (.tup [.str "step", .int (1), .int 16]) := by rw [e21]; exact at_upd _ f20_a4 hl6
    have f21_l6 : G21 l6 = some (.lst [.ref a4]) := by rw [e21]; exact upd_same
    have s21 : Same H G21 := by rw [e21]; exact Same.new _ s20 hl6
    refine ⟨c5, l6, _, _, rfl, rfl, f21_c5, f21_l6, (by show 13 ≤ sizeLine; decide), fun c6 hc6 => ?_⟩
    obtain ⟨G22, e22⟩ : ∃ L, L = upd G21 c6 (.lst ([.ref a1, .ref t1, .ref t2, .ref t3, .ref a2, .ref t1, .ref t2, .ref t3, .ref a3, .ref t1, .ref t2, .ref t3] ++ [.ref a4])) := ⟨_, rfl⟩
    rw [← e22]
    have f22_t1 : G22 t1 = some (.tup [.str "i", .int (-12), .int 12]) := by rw [e22]; exact at_upd _ f21_t1 hc6
    have f22_t2 : G22 t2 = some (.tup [.str "n", .int (-12), .int 12]) := by rw [e22]; exact at_upd _ f21_t2 hc6
    have f22_t3 : G22 t3 = some (.tup [.str "one", .int (-999), .int 999]) := by rw [e22]; exact at_upd _ f21_t3 hc6
    have f22_l1 : G22 l1 = some (.lst [.ref t1, .ref t2, .ref t3]) := by rw [e22]; exact at_upd _ f21_l1 hc6
    have f22_u1 : G22 u1 = some (.tup [.str "n", .int (0), .int 3]) := by rw [e22]; exact at_upd _ f21_u1 hc6
    have f22_u2 : G22 u2 = some (.tup [.str "one", .int (-999), .int 999]) := by rw [e22]; exact at_upd _ f21_u2 hc6
    have f22_u3 : G22 u3 = some (.tup [.str "divisor", .int (1), .int 3]) := by rw [e22]; exact at_upd _ f21_u3 hc6
    have f22_l2 : G22 l2 = some (.lst [.ref u1, .ref u2, .ref u3]) := by rw [e22]; exact at_upd _ f21_l2 hc6
    have f22_a1 : G22 a1 = some (.tup [.str "factor", .int (-999), .int 999]) := by rw [e22]; exact at_upd _ f21_a1 hc6
    have f22_l3 : G22 l3 = some (.lst [.ref a1]) := by rw [e22]; exact at_upd _ f21_l3 hc6
    have f22_c1 : G22 c1 = some (.lst [.ref a1, .ref t1, .ref t2, .ref t3]) := by rw [e22]; exact at_upd _ f21_c1 hc6
    have f22_a2 : G22 a2 = some (.tup [.str "divisor", .int (1), .int 3]) := by rw [e22]; exact at_upd _ f21_a2 hc6
    have f22_l4 : G22 l4 = some (.lst [.ref a2]) := by rw [e22]; exact at_upd _ f21_l4 hc6
    have f22_c2 : G22 c2 = some (.lst [.ref a1, .ref t1, .ref t2, .ref t3, .ref a2]) := by rw [e22]; exact at_upd _ f21_c2 hc6
    have f22_c3 : G22 c3 = some (.lst [.ref a1, .ref t1, .ref t2, .ref t3, .ref a2, .ref t1, .ref t2, .ref t3]) := by rw [e22]; exact at_upd _ f21_c3 hc6
    have f22_a3 : G22 a3 = some (.tup [.str "constant", .int (-999), .int 999]) := by rw [e22]; exact at_upd _ f21_a3 hc6
    have f22_l5 : G22 l5 = some (.lst [.ref a3]) := by rw [e22]; exact at_upd _ f21_l5 hc6
    have f22_c4 : G22 c4 = some (.lst [.ref a1, .ref t1, .ref t2, .ref t3, .ref a2, .ref t1, .ref t2, .ref t3, .ref a3]) := by rw [e22]; exact at_upd _ f21_c4 hc6
    have f22_c5 : G22 c5 = some (.lst [.ref a1, .ref t1, .ref t2, .ref t3, .ref a2, .ref t1, .ref t2, .ref t3, .ref a3, .ref t1, .ref t2, .ref t3]) := by rw [e22]; exact at_upd _ f21_c5 hc6
    have f22_a4 : G22 a4 = some (.tup [.str "step", .int (1), .int 16]) := by rw [e22]; exact at_upd _ f21_a4 hc6
    have f22_l6 : G22 l6 = some (.lst [.ref a4]) := by rw [e22]; exact at_upd _ f21_l6 hc6
    have f22_c6 : G22 c6 = some (.lst ([.ref a1, .ref t1, .ref t2, .ref t3, .ref a2, .ref t1, .ref t2, .ref t3, .ref a3, .ref t1, .ref t2, .ref t3] ++ [.ref a4])) := by rw [e22]; exact upd_same
    have s22 : Same H G22 := by rw [e22]; exact Same.new _ s21 hc6
    have pc6 : G22 c6 = some (.lst [.ref a1, .ref t1, .ref t2, .ref t3, .ref a2, .ref t1, .ref t2, .ref t3, .ref a3, .ref t1, .ref t2, .ref t3, .ref a4]) := f22_c6
    refine ⟨_, rfl, c6, l2, _, _, rfl, rfl, pc6, f22_l2, (by show 16 ≤ sizeLine; decide), fun c7 hc7 => ?_⟩
    obtain ⟨G23, e23⟩ : ∃ L, L = upd G22 c7 (.lst ([.ref a1, .ref t1, .ref t2, .ref t3, .ref a2, .ref t1, .ref t2, .ref t3, .ref a3, .ref t1, .ref t2, .ref t3, .ref a4] ++ [.ref u1, .ref u2, .ref u3])) := ⟨_, rfl⟩
    rw [← e23]
    have f23_t1 : G23 t1 = some (.tup [.str "i", .int (-12), .int 12]) := by rw [e23]; exact at_upd _ f22_t1 hc7
    have f23_t2 : G23 t2 = some (.tup [.str "n", .int (-12), .int 12]) := by rw [e23]; exact at_upd _ f22_t2 hc7
    have f23_t3 : G23 t3 = some (.tup [.str "one", .int (-999), .int 999]) := by rw [e23]; exact at_upd _ f22_t3 hc7
    have f23_l1 : G23 l1 = some (.lst [.ref t1, .ref t2, .ref t3]) := by rw [e23]; exact at_upd _ f22_l1 hc7
    have f23_u1 : G23 u1 = some (.tup [.str "n", .int (0), .int 3]) := by rw [e23]; exact at_upd _ f22_u1 hc7
    have f23_u2 : G23 u2 = some (.tup [.str "one", .int (-999), .int 999]) := by rw [e23]; exact at_upd _ f22_u2 hc7
    have f23_u3 : G23 u3 = some (.tup [.str "divisor", .int (1), .int 3]) := by rw [e23]; exact at_upd _ f22_u3 hc7
    have f23_l2 : G23 l2 = some (.lst [.ref u1, .ref u2, .ref u3]) := by rw [e23]; exact at_upd _ f22_l2 hc7
    have f23_a1 : G23 a1 = some (.tup [.str "factor", .int (-999), .int 999]) := by rw [e23]; exact at_upd _ f22_a1 hc7
    have f23_l3 : G23 l3 = some (.lst [.ref a1]) := by rw [e23]; exact at_upd _ f22_l3 hc7
    have f23_c1 : G23 c1 = some (.lst [.ref a1, .ref t1, .ref t2, .ref t3]) := by rw [e23]; exact at_upd _ f22_c1 hc7
    have f23_a2 : G23 a2 = some (.tup [.str "divisor", .int (1), .int 3]) := by rw [e23]; exact at_upd _ f22_a2 hc7
    have f23_l4 : G23 l4 = some (.lst [.ref a2]) := by rw [e23]; exact at_upd _ f22_l4 hc7
    have f23_c2 : G23 c2 = some (.lst [.ref a1, .ref t1, .ref t2, .ref t3, .ref a2]) := by rw [e23]; exact at_upd _ f22_c2 hc7
    have f23_c3 : G23 c3 = some (.lst [.ref a1, .ref t1, .ref t2, .ref t3, .ref a2, .ref t1, .ref t2, .ref t3]) := by rw [e23]; exact at_upd _ f22_c3 hc7
    have f23_a3 : G23 a3 = some (.tup [.str "constant", .int (-999), .int 999]) := by rw [e23]; exact at_upd _ f22_a3 hc7
    have f23_l5 : G23 l5 = some (.lst [.ref a3]) := by rw [e23]; exact at_upd _ f22_l5 hc7
    have f23_c4 : G23 c4 = some (.lst [.ref a1, .ref t1, .ref t2, .ref t3, .ref a2, .ref t1, .ref t2, .ref t3, .ref a3]) := by rw [e23]; exact at_upd _ f22_c4 hc7
    have f23_c5 : G23 c5 = some (.lst [.ref a1, .ref t1, .ref t2, .ref t3, .ref a2, .ref t1, .ref t2, .ref t3, .ref a3, .ref t1, .ref t2, .ref t3]) := by rw [e23]; exact at_upd _ f22_c5 hc7
    have f23_a4 : G23 a4 = some (.tup [.str "step", .int (1), .int 16]) := by rw [e23]; exact at_upd _ f22_a4 hc7
    have f23_l6 : G23 l6 = some (.lst [.ref a4]) := by rw [e23]; exact at_upd _ f22_l6 hc7
    have f23_c6 : G23 c6 = some (.lst [.ref a1, .ref t1, .ref t2, .ref t3, .ref a2, .ref t1, .ref t2, .ref t3, .ref a3, .ref t1, .ref t2, .ref t3, .ref a4]) := by rw [e23]; exact at_upd _ pc6 hc7
    have f23_c7 : G23 c7 = some (.lst ([.ref a1, .ref t1, .ref t2, .ref t3, .ref a2, .ref t1, .ref t2, .ref t3, .ref a3, .ref t1, .ref t2, .ref t3, .ref a4] ++ [.ref u1, .ref u2, .ref u3])) := by rw [e23]; exact upd_same
    have s23 : Same H G23 := by rw [e23]; exact Same.new _ s22 hc7
    have pc7 : G23 c7 = some (.lst [.ref a1, .ref t1, .ref t2, .ref t3, .ref a2, .ref t1, .ref t2, .ref t3, .ref a3, .ref t1, .ref t2, .ref t3, .ref a4, .ref u1, .ref u2, .ref u3]) := f23_c7
    refine ⟨_, rfl, c7, l2, _, _, rfl, rfl, pc7, f23_l2, (by show 19 ≤ sizeLine; decide), fun c8 hc8 => ?_⟩
    obtain ⟨G24, e24⟩ : ∃ L, L = upd G23 c8 (.lst ([.ref a1, .ref t1, .ref t2, .ref t3, .ref a2, .ref t1, .ref t2, .ref t3, .ref a3, .ref t1, .ref t2, .ref t3, .ref a4, .ref u1, .ref u2, .ref u3] ++ [.ref u1, .ref u2, .ref u3])) := ⟨_, rfl⟩
    rw [← e24]
    have f24_t1 : G24 t1 = some (.tup [.str "i", .int (-12), .int 12]) := by rw [e24]; exact at_upd _ f23_t1 hc8
    have f24_t2 : G24 t2 = some (.tup [.str "n", .int (-12), .int 12]) := by rw [e24]; exact at_upd _ f23_t2 hc8
    have f24_t3 : G24 t3 = some (.tup [.str "one", .int (-999), .int 999]) := by rw [e24]; exact at_upd _ f23_t3 hc8
    have f24_l1 : G24 l1 = some (.lst [.ref t1, .ref t2, .ref t3]) := by rw [e24]; exact at_upd _ f23_l1 hc8
    have f24_u1 : G24 u1 = some (.tup [.str "n", .int (0), .int 3]) := by rw [e24]; exact at_upd _ f23_u1 hc8
    have f24_u2 : G24 u2 = some (.tup [.str "one", .int (-999), .int 999]) := by rw [e24]; exact at_upd _ f23_u2 hc8
    have f24_u3 : G24 u3 = some (.tup [.str "divisor", .int (1), .int 3]) := by rw [e24]; exact at_upd _ f23_u3 hc8
    have f24_l2 : G24 l2 = some (.lst [.ref u1, .ref u2, .ref u3]) := by rw [e24]; exact at_upd _ f23_l2 hc8
    have f24_a1 : G24 a1 = some (.tup [.str "factor", .int (-999), .int 999]) := by rw [e24]; exact at_upd _ f23_a1 hc8
    have f24_l3 : G24 l3 = some (.lst [.ref a1]) := by rw [e24]; exact at_upd _ f23_l3 hc8
    have f24_c1 : G24 c1 = some (.lst [.ref a1, .ref t1, .ref t2, .ref t3]) := by rw [e24]; exact at_upd _ f23_c1 hc8
    have f24_a2 : G24 a2 = some (.tup [.str "divisor", .int (1), .int 3]) := by rw [e24]; exact at_upd _ f23_a2 hc8
    have f24_l4 : G24 l4 = some (.lst [.ref a2]) := by rw [e24]; exact at_upd _ f23_l4 hc8
    have f24_c2 : G24 c2 = some (.lst [.ref a1, .ref t1, .ref t2, .ref t3, .ref a2]) := by rw [e24]; exact at_upd _ f23_c2 hc8
    have f24_c3 : G24 c3 = some (.lst [.ref a1, .ref t1, .ref t2, .ref t3, .ref a2, .ref t1, .ref t2, .ref t3]) := by rw [e24]; exact at_upd _ f23_c3 hc8
    have f24_a3 : G24 a3 = some (.tup [.str "constant", .int (-999), .int 999]) := by rw [e24]; exact at_upd _ f23_a3 hc8
    have f24_l5 : G24 l5 = some (.lst [.ref a3]) := by rw [e24]; exact at_upd _ f23_l5 hc8
    have f24_c4 : G24 c4 = some (.lst [.ref a1, .ref t1, .ref t2, .ref t3, .ref a2, .ref t1, .ref t2, .ref t3, .ref a3]) := by rw [e24]; exact at_upd _ f23_c4 hc8
    have f24_c5 : G24 c5 = some (.lst [.ref a1, .ref t1, .ref t2, .ref t3, .ref a2, .ref t1, .ref t2, .ref t3, .ref a3, .ref t1, .ref t2, .ref t3]) := by rw [e24]; exact at_upd _ f23_c5 hc8
    have f24_a4 : G24 a4 = some (.tup [.str "step", .int (1), .int 16]) := by rw [e24]; exact at_upd _ f23_a4 hc8
    have f24_l6 : G24 l6 = some (.lst [.ref a4]) := by rw [e24]; exact at_upd _ f23_l6 hc8
    have f24_c6 : G24 c6 = some (.lst [.ref a1, .ref t1, .ref t2, .ref t3, .ref a2, .ref t1, .ref t2, .ref t3, .ref a3, .ref t1, .ref t2, .ref t3, .ref a4]) := by rw [e24]; exact at_upd _ f23_c6 hc8
    have f24_c7 : G24 c7 = some (.lst [.ref a1, .ref t1, .ref t2, .ref t3, .ref a2, .ref t1, .ref t2, .ref t3, .ref a3, .ref t1, .ref t2, .ref t3, .ref a4, .ref u1, .ref u2, .ref u3]) := by rw [e24]; exact at_upd _ pc7 hc8
    have f24_c8 : G24 c8 = some (.lst ([.ref a1, .ref t1, .ref t2, .ref t3, .ref a2, .ref t1, .ref t2, .ref t3, .ref a3, .ref t1, .ref t2, .ref t3, .ref a4, .ref u1, .ref u2, .ref u3] ++ [.ref u1, .ref u2, .ref u3])) := by rw [e24]; exact upd_same
    have s24 : Same H G24 := by rw [e24]; exact Same.new _ s23 hc8
    have pc8 : G24 c8 = some (.lst [.ref a1, .ref t1, .ref t2, .ref t3, .ref a2, .ref t1, .ref t2, .ref t3, .ref a3, .ref t1, .ref t2, .ref t3, .ref a4, .ref u1, .ref u2, .ref u3, .ref u1, .ref u2, .ref u3]) := f24_c8
    refine ⟨sz3, fun a5 ha5 => ?_⟩
    obtain ⟨G25, e25⟩ : ∃ L, L = upd G24 a5 (.tup [.str "i", .int (0), .int 0]) := ⟨_, rfl⟩
    rw [← e25]
    have f25_t1 : G25 t1 = some (.tup [.str "i", .int (-12), .int 12]) := by rw [e25]; exact at_upd _ f24_t1 ha5
    have f25_t2 : G25 t2 = some (.tup [.str "n", .int (-12), .int 12]) := by rw [e25]; exact at_upd _ f24_t2 ha5
    have f25_t3 : G25 t3 = some (.tup [.str "one", .int (-999), .int 999]) := by rw [e25]; exact at_upd _ f24_t3 ha5
    have f25_l1 : G25 l1 = some (.lst [.ref t1, .ref t2, .ref t3]) := by rw [e25]; exact at_upd _ f24_l1 ha5
    have f25_u1 : G25 u1 = some (.tup [.str "n", .int (0), .int 3]) := by rw [e25]; exact at_upd _ f24_u1 ha5
    have f25_u2 : G25 u2 = some (.tup [.str "one", .int (-999), .int 999]) := by rw [e25]; exact at_upd _ f24_u2 ha5
    have f25_u3 : G25 u3 = some (.tup [.str "divisor", .int (1), .int 3]) := by rw [e25]; exact at_upd _ f24_u3 ha5
    have f25_l2 : G25 l2 = some (.lst [.ref u1, .ref u2, .ref u3]) := by rw [e25]; exact at_upd _ f24_l2 ha5
    have f25_a1 : G25 a1 = some (.tup [.str "factor", .int (-999), .int 999]) := by rw [e25]; exact at_upd _ f24_a1 ha5
    have f25_l3 : G25 l3 = some (.lst [.ref a1]) := by rw [e25]; exact at_upd _ f24_l3 ha5
    have f25_c1 : G25 c1 = some (.lst [.ref a1, .ref t1, .ref t2, .ref t3]) := by rw [e25]; exact at_upd _ f24_c1 ha5
    have f25_a2 : G25 a2 = some (.tup [.str "divisor", .int (1), .int 3]) := by rw [e25]; exact at_upd _ f24_a2 ha5
    have f25_l4 : G25 l4 = some (.lst [.ref a2]) := by rw [e25]; exact at_upd _ f24_l4 ha5
    have f25_c2 : G25 c2 = some (.lst [.ref a1, .ref t1, .ref t2, .ref t3, .ref a2]) := by rw [e25]; exact at_upd _ f24_c2 ha5
    have f25_c3 : G25 c3 = some (.lst [.ref a1, .ref t1, .ref t2, .ref t3, .ref a2, .ref t1, .ref t2, .ref t3]) := by rw [e25]; exact at_upd _ f24_c3 ha5
    have f25_a3 : G25 a3 = some (.tup [.str "constant", .int (-999), .int 999]) := by rw [e25]; exact at_upd _ f24_a3 ha5
    have f25_l5 : G25 l5 = some (.lst [.ref a3]) := by rw [e25]; exact at_upd _ f24_l5 ha5
    have f25_c4 : G25 c4 = some (.lst [.ref a1, .ref t1, .ref t2, .ref t3, .ref a2, .ref t1, .ref t2, .ref t3, .ref a3]) := by rw [e25]; exact at_upd _ f24_c4 ha5
    have f25_c5 : G25 c5 = some (.lst [.ref a1, .ref t1, .ref t2, .ref t3, .ref a2, .ref t1, .ref t2, .ref t3, .ref a3, .ref t1, .ref t2, .ref t3]) := by rw [e25]; exact at_upd _ f24_c5 ha5
    have f25_a4 : G25 a4 = some (.tup [.str "step", .int (1), .int 16]) := by rw [e25]; exact at_upd _ f24_a4 ha5
    have f25_l6 : G25 l6 = some (.lst [.ref a4]) := by rw [e25]; exact at_upd _ f24_l6 ha5
    have f25_c6 : G25 c6 = some (.lst [.ref a1, .ref t1, .ref t2, .ref t3, .ref a2, .ref t1, .ref t2, .ref t3, .ref a3, .ref t1, .ref t2, .ref t3, .ref a4]) := by rw [e25]; exact at_upd _ f24_c6 ha5
    have f25_c7 : G25 c7 = some (.lst [.ref a1, .ref t1, .ref t2, .ref t3, .ref a2, .ref t1, .ref t2, .ref t3, .ref a3, .ref t1, .ref t2, .ref t3, .ref a4, .ref u1, .ref u2, .ref u3]) := by rw [e25]; exact at_upd _ f24_c7 ha5
    have f25_c8 : G25 c8 = some (.lst [.ref a1, .ref t1, .ref t2, .ref t3, .ref a2, .ref t1, .ref t2, .ref t3, .ref a3, .ref t1, .ref t2, .ref t3, .ref a4, .ref u1, .ref u2, .ref u3, .ref u1, .ref u2, .ref u3]) := by rw [e25]; exact at_upd _ pc8 ha5
    have f25_a5 : G25 a5 = some (.tup [.str "i", .int (0), .int 0]) := by rw [e25]; exact upd_same
    have s25 : Same H G25 := by rw [e25]; exact Same.new _ s24 ha5
    refine ⟨sz3, fun a6 ha6 => ?_⟩
    obtain ⟨G26, e26⟩ : ∃ L, L = upd G25 a6 (.tup [.str "i", .int (0), .int 0]) := ⟨_, rfl⟩
    rw [← e26]
    have f26_t1 : G26 t1 = some (.tup [.str "i", .int (-12), .int 12]) := by rw [e26]; exact at_upd _ f25_t1 ha6
    have f26_t2 : G26 t2 = some (.tup [.str "n", .int (-12), .int 12]) := by rw [e26]; exact at_upd _ f25_t2 ha6
    have f26_t3 : G26 t3 = some (.tup [.str "one", .int (-999), .int 999]) := by rw [e26]; exact at_upd _ f25_t3 ha6
    have f26_l1 : G26 l1 = some (.lst [.ref t1, .ref t2, .ref t3]) := by rw [e26]; exact at_upd _ f25_l1 ha6
    have f26_u1 : G26 u1 = some (.tup [.str "n", .int (0), .int 3]) := by rw [e26]; exact at_upd _ f25_u1 ha6
    have f26_u2 : G26 u2 = some (.tup [.str "one", .int (-999), .int 999]) := by rw [e26]; exact at_upd _ f25_u2 ha6
    have f26_u3 : G26 u3 = some (.tup [.str "divisor", .int (1), .int 3]) := by rw [e26]; exact at_upd _ f25_u3 ha6
    have f26_l2 : G26 l2 = some (.lst [.ref u1, .ref u2, .ref u3]) := by rw [e26]; exact at_upd _ f25_l2 ha6
    have f26_a1 : G26 a1 = some (.tup [.str "factor", .int (-999), .int 999]) := by rw [e26]; exact at_upd _ f25_a1 ha6
    have f26_l3 : G26 l3 = some (.lst [.ref a1]) := by rw [e26]; exact at_upd _ f25_l3 ha6
    have f26_c1 : G26 c1 = some (.lst [.ref a1, .ref t1, .ref t2, .ref t3]) := by rw [e26]; exact at_upd _ f25_c1 ha6
    have f26_a2 : G26 a2 = some (.tup [.str "divisor", .int (1), .int 3]) := by rw [e26]; exact at_upd _ f25_a2 ha6
    have f26_l4 : G26 l4 = some (.lst [.ref a2]) := by rw [e26]; exact at_upd _ f25_l4 ha6
    have f26_c2 : G26 c2 = some (.lst [.ref a1, .ref t1, .ref t2, .ref t3, .ref a2]) := by rw [e26]; exact at_upd _ f25_c2 ha6
    have f26_c3 : G26 c3 = some (.lst [.ref a1, .ref t1, .ref t2, .ref t3, .ref a2, .ref t1, .ref t2, .ref t3]) := by rw [e26]; exact at_upd _ f25_c3 ha6
    have f26_a3 : G26 a3 = some (.tup [.str "constant", .int (-999), .int 999]) := by rw [e26]; exact at_upd _ f25_a3 ha6
    have f26_l5 : G26 l5 = some (.lst [.ref a3]) := by rw [e26]; exact at_upd _ f25_l5 ha6
    have f26_c4 : G26 c4 = some (.lst [.ref a1, .ref t1, .ref t2, .ref t3, .ref a2, .ref t1, .ref t2, .ref t3, .ref a3]) := by rw [e26]; exact at_upd _ f25_c4 ha6
    have f26_c5 : G26 c5 = some (.lst [.ref a1, .ref t1, .ref t2, .ref t3, .ref a2, .ref t1, .ref t2, .ref t3, .ref a3, .ref t1, .ref t2, .ref t3]) := by rw [e26]; exact at_upd _ f25_c5 ha6
    have f26_a4 : G26 a4 = some (.tup [.str "step", .int (1), .int 16]) := by rw [e26]; exact at_upd _ f25_a4 ha6
    have f26_l6 : G26 l6 = some (.lst [.ref a4]) := by rw [e26]; exact at_upd _ f25_l6 ha6
    have f26_c6 : G26 c6 = some (.lst [.ref a1, .ref t1, .ref t2, .ref t3, .ref a2, .ref t1, .ref t2, .ref t3, .ref a3, .ref t1, .ref t2, .ref t3, .ref a4]) := by rw [e26]; exact at_upd _ f25_c6 ha6
    have f26_c7 : G26 c7 = some (.lst [.ref a1, .ref t1, .ref t2, .ref t3, .ref a2, .ref t1, .ref t2, .ref t3, .ref a3, .ref t1, .ref t2, .ref t3, .ref a4, .ref u1, .ref u2, .ref u3]) := by rw [e26]; exact at_upd _ f25_c7 ha6
    have f26_c8 : G26 c8 = some (.lst [.ref a1, .ref t1, .ref t2, .ref t3, .ref a2, .ref t1, .ref t2, .ref t3, .ref a3, .ref t1, .ref t2, .ref t3, .ref a4, .ref u1, .ref u2, .ref u3, .ref u1, .ref u2, .ref u3]) := by rw [e26]; exact at_upd _ f25_c8 ha6
    have f26_a5 : G26 a5 = some (.tup [.str "i", .int (0), .int 0]) := by rw [e26]; exact at_upd _ f25_a5 ha6
    have f26_a6 : G26 a6 = some (.tup [.str "i", .int (0), .int 0]) := by rw [e26]; exact upd_same
    have s26 : Same H G26 := by rw [e26]; exact Same.new _ s25 ha6
    refine ⟨sz2, fun l7 hl7 => ?_⟩
    obtain ⟨G27, e27⟩ : ∃ L, L = upd G26 l7 (.lst [.ref a5, .ref a6]) := ⟨_, rfl⟩
    rw [← e27]
    have f27_t1 : G27 t1 = some (.tup [.str "i", .int (-12), .int 12]) := by rw [e27]; exact at_upd _ f26_t1 hl7
    have f27_t2 : G27 t2 = some (.tup [.str "n", .int (-12), .int 12]) := by rw [e27]; exact at_upd _ f26_t2 hl7
    have f27_t3 : G27 t3 = some (.tup [.str "one", .int (-999), .int 999]) := by rw [e27]; exact at_upd _ f26_t3 hl7
    have f27_l1 : G27 l1 = some (.lst [.ref t1, .ref t2, .ref t3]) := by rw [e27]; exact at_upd _ f26_l1 hl7
    have f27_u1 : G27 u1 = some (.tup [.str "n", .int (0), .int 3]) := by rw [e27]; exact at_upd _ f26_u1 hl7
    have f27_u2 : G27 u2 = some (.tup [.str "one", .int (-999), .int 999]) := by rw [e27]; exact at_upd _ f26_u2 hl7
    have f27_u3 : G27 u3 = some (.tup [.str "divisor", .int (1), .int 3]) := by rw [e27]; exact at_upd _ f26_u3 hl7
    have f27_l2 : G27 l2 = some (.lst [.ref u1, .ref u2, .ref u3]) := by rw [e27]; exact at_upd _ f26_l2 hl7
    have f27_a1 : G27 a1 = some (.tup [.str "factor", .int (-999), .int 999]) := by rw [e27]; exact at_upd _ f26_a1 hl7
    have f27_l3 : G27 l3 = some (.lst [.ref a1]) := by rw [e27]; exact at_upd _ f26_l3 hl7
    have f27_c1 : G27 c1 = some (.lst [.ref a1, .ref t1, .ref t2, .ref t3]) := by rw [e27]; exact at_upd _ f26_c1 hl7
    have f27_a2 : G27 a2 = some (.tup [.str "divisor", .int (1), .int 3]) := by rw [e27]; exact at_upd _ f26_a2 hl7
    have f27_l4 : G27 l4 = some (.lst [.ref a2]) := by rw [e27]; exact at_upd _ f26_l4 hl7
    have f27_c2 : G27 c2 = some (.lst [.ref a1, .ref t1, .ref t2, .ref t3, .ref a2]) := by rw [e27]; exact at_upd _ f26_c2 hl7
    have f27_c3 : G27 c3 = some (.lst [.ref a1, .ref t1, .ref t2, .ref t3, .ref a2, .ref t1, .ref t2, .ref t3]) := by rw [e27]; exact at_upd _ f26_c3 hl7
    have f27_a3 : G27 a3 = some (.tup [.str "constant", .int (-999), .int 999]) := by rw [e27]; exact at_upd _ f26_a3 hl7
    have f27_l5 : G27 l5 = some (.lst [.ref a3]) := by rw [e27]; exact at_upd _ f26_l5 hl7
    have f27_c4 : G27 c4 = some (.lst [.ref a1, .ref t1, .ref t2, .ref t3, .ref a2, .ref t1, .ref t2, .ref t3, .ref a3]) := by rw [e27]; exact at_upd _ f26_c4 hl7
    have f27_c5 : G27 c5 = some (.lst [.ref a1, .ref t1, .ref t2, .ref t3, .ref a2, .ref t1, .ref t2, .ref t3, .ref a3, .ref t1, .ref t2, .ref t3]) := by rw [e27]; exact at_upd _ f26_c5 hl7
    have f27_a4 : G27 a4 = some (.tup [.str "step", .int (1), .int 16]) := by rw [e27]; exact at_upd _ f26_a4 hl7
    have f27_l6 : G27 l6 = some (.lst [.ref a4]) := by rw [e27]; exact at_upd _ f26_l6 hl7
    have f27_c6 : G27 c6 = some (.lst [.ref a1, .ref t1, .ref t2, .ref t3, .ref a2, .ref t1, .ref t2, .ref t3, .ref a3, .ref t1, .ref t2, .ref t3, .ref a4]) := by rw [e27]; exact at_upd _ f26_c6 hl7
    have f27_c7 : G27 c7 = some (.lst [.ref a1, .ref t1, .ref t2, .ref t3, .ref a2, .ref t1, .ref t2, .ref t3, .ref a3, .ref t1, .ref t2, .ref t3, .ref a4, .ref u1, .ref u2, .ref u3]) := by rw [e27]; exact at_upd _ f26_c7 hl7
    have f27_c8 : G27 c8 = some (.lst [.ref a1, .ref t1, .ref t2, .ref t3, .ref a2, .ref t1, .ref t2, .ref t3, .ref a3, .ref t1, .ref t2, .ref t3, .ref a4, .ref u1, .ref u2, .ref u3, .ref u1, .ref u2, .ref u3]) := by rw [e27]; exact at_upd _ f26_c8 hl7
    have f27_a5 : G27 a5 = some (.tup [.str "i", .int (0), .int 0]) := by rw [e27]; exact at_upd _ f26_a5 hl7
    have f27_a6 : G27 a6 = some (.tup [.str "i", .int (0), .int 0]) := by rw [e27]; exact at_upd _ f26_a6 hl7
    have f27_l7 : G27 l7 = some (.lst [.ref a5, .ref a6]) := by rw [e27]; exact upd_same
    have s27 : Same H G27 := by rw [e27]; exact Same.new _ s26 hl7
    refine ⟨c8, l7, _, _, rfl, rfl, f27_c8, f27_l7, (by show 21 ≤ sizeLine; decide), fun c9 hc9 => ?_⟩
    obtain ⟨G28, e28⟩ : ∃ L, L = upd G27 c9 (.lst ([.ref a1, .ref t1, .ref t2, .ref t3, .ref a2, .ref t1, .ref t2, .ref t3, .ref a3, .ref t1, .ref t2, .ref t3, .ref a4, .ref u1, .ref u2, .ref u3, .ref u1, .ref u2, .ref u3] ++ [.ref a5, .ref a6])) := ⟨_, rfl⟩
    rw [← e28]
    have f28_t1 : G28 t1 = some (.tup [.str "i", .int (-12), .int 12]) := by rw [e28]; exact at_upd _ f27_t1 hc9
    have f28_t2 : G28 t2 = some (.tup [.str "n", .int (-12), .int 12]) := by rw [e28]; exact at_upd _ f27_t2 hc9
    have f28_t3 : G28 t3 = some (.tup [.str "one", .int (-999), .int 999]) := by rw [e28]; exact at_upd _ f27_t3 hc9
    have f28_l1 : G28 l1 = some (.lst [.ref t1, .ref t2, .ref t3]) := by rw [e28]; exact at_upd _ f27_l1 hc9
    have f28_u1 : G28 u1 = some (.tup [.str "n", .int (0), .int 3]) := by rw [e28]; exact at_upd _ f27_u1 hc9
    have f28_u2 : G28 u2 = some (.tup [.str "one", .int (-999), .int 999]) := by rw [e28]; exact at_upd _ f27_u2 hc9
    have f28_u3 : G28 u3 = some (.tup [.str "divisor", .int (1), .int 3]) := by rw [e28]; exact at_upd _ f27_u3 hc9
    have f28_l2 : G28 l2 = some (.lst [.ref u1, .ref u2, .ref u3]) := by rw [e28]; exact at_upd _ f27_l2 hc9
    have f28_a1 : G28 a1 = some (.tup [.str "factor", .int (-999), .int 999]) := by rw [e28]; exact at_upd _ f27_a1 hc9
    have f28_l3 : G28 l3 = some (.lst [.ref a1]) := by rw [e28]; exact at_upd _ f27_l3 hc9
    have f28_c1 : G28 c1 = some (.lst [.ref a1, .ref t1, .ref t2, .ref t3]) := by rw [e28]; exact at_upd _ f27_c1 hc9
    have f28_a2 : G28 a2 = some (.tup [.str "divisor", .int (1), .int 3]) := by rw [e28]; exact at_upd _ f27_a2 hc9
    have f28_l4 : G28 l4 = some (.lst [.ref a2]) := by rw [e28]; exact at_upd _ f27_l4 hc9
    have f28_c2 : G28 c2 = some (.lst [.ref a1, .ref t1, .ref t2, .ref t3, .ref a2]) := by rw [e28]; exact at_upd _ f27_c2 hc9
    have f28_c3 : G28 c3 = some (.lst [.ref a1, .ref t1, .ref t2, .ref t3, .ref a2, .ref t1, .ref t2, .ref t3]) := by rw [e28]; exact at_upd _ f27_c3 hc9
    have f28_a3 : G28 a3 = some (.tup [.str "constant", .int (-999), .int 999]) := by rw [e28]; exact at_upd _ f27_a3 hc9
    have f28_l5 : G28 l5 = some (.lst [.ref a3]) := by rw [e28]; exact at_upd _ f27_l5 hc9
    have f28_c4 : G28 c4 = some (.lst [.ref a1, .ref t1, .ref t2, .ref t3, .ref a2, .ref t1, .ref t2, .ref t3, .ref a3]) := by rw [e28]; exact at_upd _ f27_c4 hc9
    have f28_c5 : G28 c5 = some (.lst [.ref a1, .ref t1, .ref t2, .ref t3, .ref a2, .ref t1, .ref t2, .ref t3, .ref a3, .ref t1, .ref t2, .ref t3]) := by rw [e28]; exact at_upd _ f27_c5 hc9
    have f28_a4 : G28 a4 = some (.tup [.str "step", .int (1), .int 16]) := by rw [e28]; exact at_upd _ f27_a4 hc9
    have f28_l6 : G28 l6 = some (.lst [.ref a4]) := by rw [e28]; exact at_upd _ f27_l6 hc9
    have f28_c6 : G28 c6 = some (.lst [.ref a1, .ref t1, .ref t2, .ref t3, .ref a2, .ref t1, .ref t2, .ref t3, .ref a3, .ref t1, .ref t2, .ref t3, .ref a4]) := by rw [e28]; exact at_upd _ f27_c6 hc9
    have f28_c7 : G28 c7 = some (.lst [.ref a1, .ref t1, .ref t2, .ref t3, .ref a2, .ref t1, .ref t2, .ref t3, .ref a3, .ref t1, .ref t2, .ref t3, .ref a4, .ref u1, .ref u2, .ref u3]) := by rw [e28]; exact at_upd _ f27_c7 hc9
    have f28_c8 : G28 c8 = some (.lst [.ref a1, .ref t1, .ref t2, .ref t3, .ref a2, .ref t1, .ref t2, .ref t3, .ref a3, .ref t1, .ref t2, .ref t3, .ref a4, .ref u1, .ref u2, .ref u3, .ref u1, .ref u2, .ref u3]) := by rw [e28]; exact at_upd _ f27_c8 hc9
    have f28_a5 : G28 a5 = some (.tup [.str "i", .int (0), .int 0]) := by rw [e28]; exact at_upd _ f27_a5 hc9
    have f28_a6 : G28 a6 = some (.tup [.str "i", .int (0), .int 0]) := by rw [e28]; exact at_upd _ f27_a6 hc9
    have f28_l7 : G28 l7 = some (.lst [.ref a5, .ref a6]) := by rw [e28]; exact at_upd _ f27_l7 hc9
    have f28_c9 : G28 c9 = some (.lst ([.ref a1, .ref t1, .ref t2, .ref t3, .ref a2, .ref t1, .ref t2, .ref t3, .ref a3, .ref t1, .ref t2, .ref t3, .ref a4, .ref u1, .ref u2, .ref u3, .ref u1, .ref u2, .ref u3] ++ [.ref a5, .ref a6])) := by rw [e28]; exact upd_same
    have s28 : Same H G28 := by rw [e28]; exact Same.new _ s27 hc9
    have pc9 : G28 c9 = some (.lst [.ref a1, .ref t1, .ref t2, .ref t3, .ref a2, .ref t1, .ref t2, .ref t3, .ref a3, .ref t1, .ref t2, .ref t3, .ref a4, .ref u1, .ref u2, .ref u3, .ref u1, .ref u2, .ref u3, .ref a5, .ref a6]) := f28_c9
    refine k c9 _ s28 ⟨[a1, t1, t2, t3, a2, t1, t2, t3, a3, t1, t2, t3, a4, u1, u2, u3, u1, u2, u3, a5, a6], pc9, rfl, ?_⟩
    intro q hq
    simp only [bnds, List.zip_cons_cons, List.zip_nil_right, List.mem_cons, List.not_mem_nil, or_false] at hq
    rcases hq with rfl | rfl | rfl | rfl | rfl | rfl | rfl | rfl | rfl | rfl | rfl | rfl | rfl | rfl | rfl | rfl | rfl | rfl | rfl | rfl | rfl
    · exact f28_a1
    · exact f28_t1
    · exact f28_t2
    · exact f28_t3
    · exact f28_a2
    · exact f28_t1
    · exact f28_t2
    · exact f28_t3
    · exact f28_a3
    · exact f28_t1
    · exact f28_t2
    · exact f28_t3
    · exact f28_a4
    · exact f28_u1
    · exact f28_u2
    · exact f28_u3
    · exact f28_u1
    · exact f28_u2
    · exact f28_u3
    · exact f28_a5
    · exact f28_a6
end
end K23

set_option maxHeartbeats 4000000
namespace K23
open PySem PySem.Spec PyProof.Rows L2 Z
structure OpX (P : Program) (w : World) (K : PySem.W.Frag) (mg : Str → Option Value) (base : Heap) : Prop where
  sa : Om P w K mg base (CS K) 4 (dunder "add") (spSAdd K)
  sm : Om P w K mg base (CS K) 3 (dunder "mul") (spSMul K)
  sr : Om P w K mg base (CS K) 3 (dunderR "mul") (spSMul K)
  fd : OmX P w K mg base (CS K) 6 (dunder "floordiv") (spFdG K)
  ia : OpI K (CS K) "add"
  im : OpI K (CS K) "mul"
  if_ : OpI K (CS K) "floordiv"
section
variable {K : PySem.W.Frag} {H : Hp} {p q : Addr} {a b c x y z i : Int} {Q : VK} {v : V} {C dx : Addr} {fs : List (Str × V)} {f : Str}
theorem r_add (hp : StrAt K H p a b c) (hq : StrAt K H q x y z) (k : GotS K H (a + x) (b + y) (c + z) Q) : rOwn (CS K) (spSAdd K) (.ref p) (.ref q) H Q := by
  obtain ⟨d, h⟩ := id hp
  obtain ⟨e, g⟩ := id hq
  exact ⟨p, q, d, e, _, _, rfl, rfl, h, g, p, a, b, c, x, y, z, _, rfl, hp, .inl ⟨q, rfl, hq⟩, k⟩
theorem r_addI (hp : StrAt K H p a b c) (k : GotS K H a b (c + i) Q) : rOwnI (CS K) (spSAdd K) (.ref p) (.int i) H Q := by
  obtain ⟨d, h⟩ := id hp
  exact ⟨p, d, _, i, rfl, rfl, h, p, a, b, c, 0, 0, i, _, rfl, hp, .inr ⟨rfl, rfl, rfl⟩, by rw [Int.add_zero, Int.add_zero]; exact k⟩
theorem r_mulI (hp : StrAt K H p a b c) (s : Sm a ∧ Sm b ∧ Sm c) (k : GotS K H (a * i) (b * i) (c * i) Q) : rOwnI (CS K) (spSMul K) (.ref p) (.int i) H Q := by
  obtain ⟨d, h⟩ := id hp
  exact ⟨p, d, _, i, rfl, rfl, h, p, a, b, c, i, rfl, hp, .inr s, fun r H' s _ hr => k r H' s hr⟩
theorem r_imul (hp : StrAt K H p a b c) (s : Sm a ∧ Sm b ∧ Sm c) (k : GotS K H (a * i) (b * i) (c * i) Q) : rRefl (CS K) (spSMul K) (.int i) (.ref p) H Q := by
  obtain ⟨d, h⟩ := id hp
  exact ⟨p, d, _, i, rfl, rfl, h, p, a, b, c, i, rfl, hp, .inr s, fun r H' s _ hr => k r H' s hr⟩
theorem sm_i : Sm 1 ∧ Sm 0 ∧ Sm 0 := by unfold Sm; omega
theorem sm_n : Sm 0 ∧ Sm 1 ∧ Sm 0 := by unfold Sm; omega
/-- AtLeast(v) whose sum is in its least form -/
theorem r_atl (h : SumV K H v a b c) (g : g2 a b = 1) (k : ∀ p H', Same H H' → AtlAt K H' p a b c → Q (.ref p) H') : ∃ v' a' b' c', [v] = [v'] ∧ SumV K H v' a' b' c' ∧ g2 a' b' < 1073741824 ∧ NewA K H (a'.fdiv (g2 a' b')) (b'.fdiv (g2 a' b')) (lf3 a' b' c') Q := by
  refine ⟨v, a, b, c, rfl, h, by omega, ?_⟩
  have e : lf3 a b c = c := by
    unfold lf3
    rw [g, if_neg (by decide)]
    simp
  rw [e, g]
  have f1 : ∀ t : Int, t.fdiv ((1 : Nat) : Int) = t := fun t => by simp
  rw [f1, f1]
  exact k
theorem g2_1 (m : Int) : g2 1 m = 1 := by
  unfold g2
  show Nat.gcd 1 _ = 1
  exact Nat.gcd_one_left _
theorem g2_2 (m : Int) : g2 m 1 = 1 := by
  unfold g2
  show Nat.gcd _ 1 = 1
  exact Nat.gcd_one_right _
theorem gg1 (m : Int) : gg 1 0 m = 1 := by
  unfold gg
  show Nat.gcd 1 _ = 1
  exact Nat.gcd_one_left _
theorem gg2 (m : Int) : gg 0 1 m = 1 := by
  unfold gg
  show Nat.gcd 1 _ = 1
  exact Nat.gcd_one_left _
/-- the place s // d in its least form already -/
theorem r_fd {E : XK} {d : Int} (hp : StrAt K H p a b c) (d1 : 1 ≤ d) (g : gg a b d = 1) (k : ∀ q H', Same H H' → PlcAt K H' q a b c d → Q (.ref q) H') :
    ∃ (p' : Addr) (x' y' z' d' : Int), V.ref p = .ref p' ∧ V.int d = .int d' ∧ StrAt K H p' x' y' z' ∧ (d' < 1 → BadN K H "divisor" (.int d') E) ∧ (1 ≤ d' → gg x' y' d' < 1073741824 ∧ NewP K H x' y' z' d' Q) := by
  refine ⟨p, a, b, c, d, rfl, rfl, hp, fun z => by omega, fun _ => ⟨by omega, ?_⟩⟩
  unfold NewP
  rw [g]
  have f1 : ∀ t : Int, t.fdiv ((1 : Nat) : Int) = t := fun t => by simp
  rw [f1, f1, f1, f1]
  exact k
theorem f_at (hp : H p = some (.ins C dx fs)) (cl : Cls K C) (na : NoAttr K C f) (lk : fs.lookup f = some v) (k : Q v H) : ∃ a C dx fs u, V.ref p = .ref a ∧ H a = some (.ins C dx fs) ∧ Cls K C ∧ NoAttr K C f ∧ fs.lookup f = some u ∧ Q u H := ⟨p, C, dx, fs, v, rfl, hp, cl, na, lk, k⟩
end
theorem isName_a : isName "a" = true := by decide +kernel
def wOk (j : Nat) (m : Int) : Option Er := match bnds[j]? with
  | some b => if b.2.1 ≤ m ∧ m ≤ b.2.2 ∧ (b.1 ≠ "factor" ∨ m ≠ 0) then none else some (.num b.1 m)
  | none => none
theorem wOk_n {j : Nat} {m lo hi : Int} {x : Str} (h : bnds[j]? = some (x, lo, hi)) (hx : x ≠ "factor") : wOk j m = ckN x m lo hi := by
  unfold wOk ckN
  rw [h]
  show (if lo ≤ m ∧ m ≤ hi ∧ (x ≠ "factor" ∨ m ≠ 0) then none else some (Er.num x m)) = _
  by_cases q : lo ≤ m ∧ m ≤ hi
  · rw [if_pos q, if_pos ⟨q.1, q.2, .inl hx⟩]
  · rw [if_neg q, if_neg fun z => q ⟨z.1, z.2.1⟩]
theorem wne : ("i" : Str) ≠ "factor" ∧ ("n" : Str) ≠ "factor" ∧ ("one" : Str) ≠ "factor" ∧ ("divisor" : Str) ≠ "factor" ∧ ("constant" : Str) ≠ "factor" ∧ ("step" : Str) ≠ "factor" := by decide +kernel
theorem ck_a {x : Str} (h : isName x = true) : ckA x = none := if_pos h
theorem ckN_in {x : Str} {v lo hi : Int} (h : lo ≤ v ∧ v ≤ hi) : ckN x v lo hi = none := if_pos h
theorem ckM_in {x : Str} {v l : Int} (h : v ≤ l) : ckM x v l = none := if_pos h
theorem no_or {o : Option Er} : (none : Option Er).or o = o := rfl
theorem or_no {o : Option Er} : o.or none = o := by cases o <;> rfl
theorem ck0 (m : Int) : ckRead "a" m 1 0 0 1 = wOk 0 m := by
  unfold ckRead ckP ckS
  rw [ck_a isName_a, ckN_in (v := 1) (by decide), ckN_in (v := 0) (by decide), ckN_in (v := 0) (by decide), ckN_in (v := 1) (by decide)]
  simp only [no_or, or_no]
  unfold wOk ckN
  show _ = (if (-999 : Int) ≤ m ∧ m ≤ 999 ∧ (("factor" : Str) ≠ "factor" ∨ m ≠ 0) then none else some (Er.num "factor" m))
  by_cases h0 : m = 0
  · have q : ¬ ((-999 : Int) ≤ m ∧ m ≤ 999 ∧ (("factor" : Str) ≠ "factor" ∨ m ≠ 0)) := fun z => z.2.2.elim (fun y => y rfl) (fun y => y h0)
    rw [if_pos h0, if_neg q]
    rfl
  · rw [if_neg h0, no_or]
    by_cases q : -999 ≤ m ∧ m ≤ 999
    · rw [if_pos q, if_pos ⟨q.1, q.2, .inr h0⟩]
    · rw [if_neg q, if_neg fun z => q ⟨z.1, z.2.1⟩]
theorem ck1 (m : Int) : ckRead "a" 1 m 1 0 1 = wOk 1 m := by
  rw [wOk_n (j := 1) rfl wne.1]
  unfold ckRead ckP ckS
  rw [ck_a isName_a, ckN_in (v := 1) (by decide), ckN_in (v := 1) (by decide), ckN_in (v := 0) (by decide), ckN_in (v := 1) (by decide), if_neg (by decide)]
  simp only [no_or, or_no]
theorem ck2 (m : Int) : ckRead "a" 1 1 m 0 1 = wOk 2 m := by
  rw [wOk_n (j := 2) rfl wne.2.1]
  unfold ckRead ckP ckS
  rw [ck_a isName_a, ckN_in (v := 1) (by decide), ckN_in (v := 1) (by decide), ckN_in (v := 0) (by decide), ckN_in (v := 1) (by decide), if_neg (by decide)]
  simp only [no_or, or_no]
theorem ck3 (m : Int) : ckRead "a" 1 0 0 m 1 = wOk 3 m := by
  rw [wOk_n (j := 3) rfl wne.2.2.1]
  unfold ckRead ckP ckS
  rw [ck_a isName_a, ckN_in (v := 1) (by decide), ckN_in (v := 0) (by decide), ckN_in (v := 0) (by decide), ckN_in (v := 1) (by decide), if_neg (by decide)]
  simp only [no_or, or_no]
theorem ck4 (m : Int) : ckRead "a" 1 1 0 0 m = wOk 4 m := by
  rw [wOk_n (j := 4) rfl wne.2.2.2.1]
  unfold ckRead ckP ckS
  rw [ck_a isName_a, ckN_in (v := 1) (by decide), ckN_in (v := 1) (by decide), ckN_in (v := 0) (by decide), ckN_in (v := 0) (by decide), if_neg (by decide)]
  simp only [no_or, or_no]
theorem ckSt0 {a b c k : Int} : ckStm 0 0 "a" [] a b c k = (ckS a b c).or (ckN "constant" k (-999) 999) := by
  unfold ckStm ckCs
  rw [ck_a isName_a, ckM_in (v := 0) (by decide), ckM_in (v := 0) (by decide)]
  simp only [no_or, or_no]
theorem ck5 (m : Int) : ckStm 0 0 "a" [] m 1 0 0 = wOk 5 m := by
  rw [wOk_n (j := 5) rfl wne.1, ckSt0]
  unfold ckS
  rw [ckN_in (v := 1) (by decide), ckN_in (v := 0) (by decide), ckN_in (v := 0) (by decide)]
  simp only [no_or, or_no]
theorem ck6 (m : Int) : ckStm 0 0 "a" [] 1 m 0 0 = wOk 6 m := by
  rw [wOk_n (j := 6) rfl wne.2.1, ckSt0]
  unfold ckS
  rw [ckN_in (v := 1) (by decide), ckN_in (v := 0) (by decide), ckN_in (v := 0) (by decide)]
  simp only [no_or, or_no]
theorem ck7 (m : Int) : ckStm 0 0 "a" [] 0 0 m 0 = wOk 7 m := by
  rw [wOk_n (j := 7) rfl wne.2.2.1, ckSt0]
  unfold ckS
  rw [ckN_in (v := 0) (by decide), ckN_in (v := 0) (by decide), ckN_in (v := 0) (by decide)]
  simp only [no_or, or_no]
theorem ck8 (m : Int) : ckStm 0 0 "a" [] 1 0 0 m = wOk 8 m := by
  rw [wOk_n (j := 8) rfl wne.2.2.2.2.1, ckSt0]
  unfold ckS
  rw [ckN_in (v := 1) (by decide), ckN_in (v := 0) (by decide), ckN_in (v := 0) (by decide)]
  simp only [no_or, or_no]
theorem ckSt1 {cs : List (Int × Int × Int)} {n : Int} (hn : n ≤ 3) : ckStm 0 n "a" cs 1 0 0 0 = ckCs cs := by
  unfold ckStm ckS
  rw [ck_a isName_a, ckM_in (v := 0) (by decide), ckM_in hn, ckN_in (v := 1) (by decide), ckN_in (v := 0) (by decide), ckN_in (v := 0) (by decide), ckN_in (v := 0) (by decide)]
  simp only [no_or, or_no]
theorem ck9 (m : Int) : ckStm 0 2 "a" [(1, 0, 0), (m, 1, 0)] 1 0 0 0 = wOk 9 m := by
  rw [wOk_n (j := 9) rfl wne.1, ckSt1 (by decide)]
  simp only [ckCs, ckS]
  rw [ckN_in (v := 1) (by decide), ckN_in (v := 0) (by decide), ckN_in (v := 0) (by decide), ckN_in (v := 1) (by decide)]
  simp only [no_or, or_no]
theorem ck10 (m : Int) : ckStm 0 1 "a" [(1, m, 0)] 1 0 0 0 = wOk 10 m := by
  rw [wOk_n (j := 10) rfl wne.2.1, ckSt1 (by decide)]
  simp only [ckCs, ckS]
  rw [ckN_in (v := 1) (by decide), ckN_in (v := 0) (by decide)]
  simp only [no_or, or_no]
theorem ck11 (m : Int) : ckStm 0 1 "a" [(1, 0, m)] 1 0 0 0 = wOk 11 m := by
  rw [wOk_n (j := 11) rfl wne.2.2.1, ckSt1 (by decide)]
  simp only [ckCs, ckS]
  rw [ckN_in (v := 1) (by decide), ckN_in (v := 0) (by decide)]
  simp only [no_or, or_no]
def spKept (K : PySem.W.Frag) : Sp := fun vs H Q E => ∃ (j : Nat) (m : Int), vs = [.int j, .int m] ∧ j < 12 ∧ (j = 4 → 1 ≤ m) ∧ Out (wOk j m) (Rz K H E) (∀ H', Same H H' → Q (.int m) H')
section
variable {K : PySem.W.Frag} {H : Hp} {Q : VK} {E : XK}
theorem atl_cnd {mg : Str → Option Value} (T : PrTx K mg) {p : Addr} {a b c : Int} (h : AtlAt K H p a b c) : CndAt K H (.ref p) (a, b, c) := by
  obtain ⟨dx, q, h1, h2⟩ := h
  exact ⟨p, _, dx, _, q, rfl, h1, T.clA, T.nAS, af_s q, h2⟩
theorem cnds1 {v : V} {t : Int × Int × Int} (h : CndAt K H v t) : Cnds K H [v] [t] := ⟨rfl, fun i u s h1 h2 => by
  match i, h1, h2 with
  | 0, h1, h2 =>
    cases h1
    cases h2
    exact h⟩
theorem cnds2 {v u : V} {t s : Int × Int × Int} (h : CndAt K H v t) (g : CndAt K H u s) : Cnds K H [v, u] [t, s] := ⟨rfl, fun i x y h1 h2 => by
  match i, h1, h2 with
  | 0, h1, h2 =>
    cases h1
    cases h2
    exact h
  | 1, h1, h2 =>
    cases h1
    cases h2
    exact g⟩
theorem len_a : ("a" : Str).length ≤ 1000 := by decide +kernel
end
section
variable {P : Program} {w : World} {K : PySem.W.Frag} {mg : Str → Option Value} {base : Heap}
theorem sc_law_kept : FnScope ["_law_way", "_law_number", "_law_i", "_law_n"] ["_law_way", "_law_number"] (defScope s_law_kept) := ⟨rfl, rfl, rfl, by decide +kernel, rfl, by decide +kernel, by decide +kernel⟩
theorem ok_kept {f : Addr} {fd : FuncData} (F : FnP K "_law_kept" s_law_kept f fd) (T : LwTx K mg) (M : MkS P w K mg base) (MA : MkA P w K mg base) (MRd : MkRd P w K mg base) (MSt : MkSt P w K mg base) (O : OpX P w K mg base) : FnOk P w K mg base (L2.CX P w) 9 f fd ["_law_way", "_law_number"] (spKept K) := by
  refine F.ok sc_law_kept (fun vs H Q E h => ?_) (fun cdv A outer s H vs Q E hr h => ?_)
  · obtain ⟨j, m, rfl, _⟩ := h
    rfl
  · obtain ⟨j, m, rfl, hj, h4, kk⟩ := h
    refine ⟨_, (pss_cons (ps_par (i := 2) (j := 3) (by rfl) sc_law_kept.nd rfl rfl (by decide) rfl rfl (pa_cons (pe_S T.toStTx M hr (pa_cons pe_int (pa_cons pe_int (pa_cons pe_int pa_nil)))) (pa_cons (pe_S T.toStTx M hr (pa_cons pe_int (pa_cons pe_int (pa_cons pe_int pa_nil)))) pa_nil)) (by rfl))
      (pss_cons (ps_if (pt_cmpR op_eq (pv 0) pe_int (nomark _)) (pss_one (ps_ret (pe_fld (pe_RdK (K := K) MRd rfl hr (fun σ => passAt (takes_of rfl rfl rfl rfl) σ) (pa_cons pe_str (pa_cons (pv 2) pa_nil)) (pk_cons (pv 1) pk_nil)) rfl))) pss_nil)
      (pss_cons (ps_if (pt_cmpR op_eq (pv 0) pe_int (nomark _)) (pss_one (ps_ret (pe_fld (pe_fld (pe_fld (pe_RdP (K := K) MRd rfl hr (fun σ => passAt (takes_of rfl rfl rfl rfl) σ) (pa_cons pe_str (pa_cons (pe_S T.toStTx M hr (pa_cons (pv 1) (pa_cons pe_int (pa_cons pe_int pa_nil)))) pa_nil))) rfl) rfl) rfl))) pss_nil)
      (pss_cons (ps_if (pt_cmpR op_eq (pv 0) pe_int (nomark _)) (pss_one (ps_ret (pe_fld (pe_fld (pe_fld (pe_RdP (K := K) MRd rfl hr (fun σ => passAt (takes_of rfl rfl rfl rfl) σ) (pa_cons pe_str (pa_cons (pe_S T.toStTx M hr (pa_cons pe_int (pa_cons (pv 1) (pa_cons pe_int pa_nil)))) pa_nil))) rfl) rfl) rfl))) pss_nil)
      (pss_cons (ps_if (pt_cmpR op_eq (pv 0) pe_int (nomark _)) (pss_one (ps_ret (pe_fld (pe_fld (pe_fld (pe_RdP (K := K) MRd rfl hr (fun σ => passAt (takes_of rfl rfl rfl rfl) σ) (pa_cons pe_str (pa_cons (pv 1) pa_nil))) rfl) rfl) rfl))) pss_nil)
      (pss_cons (ps_if (pt_cmpR op_eq (pv 0) pe_int (nomark _)) (pss_one (ps_ret (pe_fld (pe_fld (pe_RdP (K := K) MRd rfl hr (fun σ => passAt (takes_of rfl rfl rfl rfl) σ) (pa_cons pe_str (pa_cons (pe_fdS O.fd O.if_ hr (fun σ => passAt (takes_of rfl rfl rfl rfl) σ) (pv 2) (pv 1)) pa_nil))) rfl) rfl))) pss_nil)
      (pss_cons (ps_if (pt_cmpR op_eq (pv 0) pe_int (nomark _)) (pss_one (ps_ret (pe_fld (pe_fld (pe_StP (K := K) MSt rfl hr (fun σ => passAt (takes_of rfl rfl rfl rfl) σ) (pa_cons pe_str (pa_cons (pe_S T.toStTx M hr (pa_cons (pv 1) (pa_cons pe_int (pa_cons pe_int pa_nil)))) (pa_cons pe_int pa_nil)))) rfl) rfl))) pss_nil)
      (pss_cons (ps_if (pt_cmpR op_eq (pv 0) pe_int (nomark _)) (pss_one (ps_ret (pe_fld (pe_fld (pe_StP (K := K) MSt rfl hr (fun σ => passAt (takes_of rfl rfl rfl rfl) σ) (pa_cons pe_str (pa_cons (pe_S T.toStTx M hr (pa_cons pe_int (pa_cons (pv 1) (pa_cons pe_int pa_nil)))) (pa_cons pe_int pa_nil)))) rfl) rfl))) pss_nil)
      (pss_cons (ps_if (pt_cmpR op_eq (pv 0) pe_int (nomark _)) (pss_one (ps_ret (pe_fld (pe_fld (pe_StP (K := K) MSt rfl hr (fun σ => passAt (takes_of rfl rfl rfl rfl) σ) (pa_cons pe_str (pa_cons (pv 1) (pa_cons pe_int pa_nil)))) rfl) rfl))) pss_nil)
      (pss_cons (ps_if (pt_cmpR op_eq (pv 0) pe_int (nomark _)) (pss_one (ps_ret (pe_fld (pe_StP (K := K) MSt rfl hr (fun σ => passAt (takes_of rfl rfl rfl rfl) σ) (pa_cons pe_str (pa_cons (pv 2) (pa_cons (pv 1) pa_nil)))) rfl))) pss_nil)
      (pss_cons (ps_if (pt_cmpR op_eq (pv 0) pe_int (nomark _)) (pss_one (ps_ret (pe_fld (pe_fld (pe_ix ix_tup (pe_fld (pe_StK1 (K := K) MSt rfl hr (fun σ => passAt (takes_of rfl rfl rfl rfl) σ) (pa_cons pe_str (pa_cons (pv 2) (pa_cons pe_int pa_nil))) (pk_cons (pe_lst (pa_cons (pe_AK (K := K) rfl T.toAtTx MA hr (pa_cons (pv 2) pa_nil)) (pa_cons (pe_AK (K := K) rfl T.toAtTx MA hr (pa_cons (pe_op (op_own O.sa O.ia hr) (pe_op (op_reflMul O.sm O.sr O.im hr) (pv 1) (pv 2)) (pv 3)) pa_nil)) pa_nil))) pk_nil)) rfl) pe_int (fun _ _ => rfl)) rfl) rfl))) pss_nil)
      (pss_cons (ps_if (pt_cmpR op_eq (pv 0) pe_int (nomark _)) (pss_one (ps_ret (pe_fld (pe_fld (pe_ix ix_tup (pe_fld (pe_StK1 (K := K) MSt rfl hr (fun σ => passAt (takes_of rfl rfl rfl rfl) σ) (pa_cons pe_str (pa_cons (pv 2) (pa_cons pe_int pa_nil))) (pk_cons (pe_lst (pa_cons (pe_AK (K := K) rfl T.toAtTx MA hr (pa_cons (pe_op (op_own O.sa O.ia hr) (pv 2) (pe_op (op_reflMul O.sm O.sr O.im hr) (pv 1) (pv 3))) pa_nil)) pa_nil)) pk_nil)) rfl) pe_int (fun _ _ => rfl)) rfl) rfl))) pss_nil)
      (pss_one (ps_ret (pe_fld (pe_fld (pe_ix ix_tup (pe_fld (pe_StK1 (K := K) MSt rfl hr (fun σ => passAt (takes_of rfl rfl rfl rfl) σ) (pa_cons pe_str (pa_cons (pv 2) (pa_cons pe_int pa_nil))) (pk_cons (pe_tup (pa_cons (pe_AK (K := K) rfl T.toAtTx MA hr (pa_cons (pe_op (op_ownI O.sa O.ia hr) (pv 2) (pv 1)) pa_nil)) pa_nil)) pk_nil)) rfl) pe_int (fun _ _ => rfl)) rfl) rfl))))))))))))))), ?_⟩
    have szl : 3 ≤ sizeLine := by show 3 ≤ sizeLine; decide
    refine ⟨_, _, _, rfl, fun p1 H1 s1 _ h1 => ⟨_, _, _, rfl, fun p2 H2 s2 _ h2 => ⟨_, _, rfl, ?_⟩⟩⟩
    have h1 := h1.same s2
    have s12 := s1.trans s2
    replace kk : Out (wOk j m) (Rz K H2 E) (∀ H', Same H2 H' → Q (.int m) H') := kk.end_ (fun e z => z.same s12) fun k H' s => k H' (s12.trans s)
    refine ⟨_, rfl, rfl, _, rfl, ite2 (fun e => ?_) (fun n0 => ?_)⟩
    · obtain rfl : j = 0 := by
        have := of_decide_eq_true e
        injection this with this
        omega
      refine ⟨_, rfl, _, rfl, rfl, rfl, "a", _, m, 1, 0, 0, 1, rfl, len_a, .inr ⟨.inl ⟨p1, rfl, h1⟩, rfl⟩, ?_⟩
      rw [ck0 m]
      refine kk.end_ (fun e z => z.same (Same.refl H2)) fun k p5 H5 s5 hR => ?_
      obtain ⟨dr, qr, hr1, dq, qs, hq1, dz, hs1⟩ := hR
      exact ⟨p5, _, _, _, _, rfl, hr1, T.clR, T.nRF, rdf_f _ _ _, k _ ((Same.refl H2).trans s5)⟩
    replace n0 : j ≠ 0 := fun z => n0 (by rw [z]; rfl)
    refine ⟨_, rfl, rfl, _, rfl, ite2 (fun e => ?_) (fun n1 => ?_)⟩
    · obtain rfl : j = 1 := by
        have := of_decide_eq_true e
        injection this with this
        omega
      refine ⟨_, rfl, _, _, _, rfl, fun p3 H3 s3 _ h3 => ⟨"a", _, 1, m, 1, 0, 1, rfl, len_a, .inr ⟨.inl ⟨p3, rfl, h3⟩, rfl⟩, ?_⟩⟩
      rw [ck1 m]
      refine kk.end_ (fun e z => z.same s3) fun k p5 H5 s5 hR => ?_
      obtain ⟨dr, qr, hr1, dq, qs, hq1, dz, hs1⟩ := hR
      exact ⟨p5, _, _, _, _, rfl, hr1, T.clR, T.nRP, rdf_p _ _ _, qr, _, _, _, _, rfl, hq1, T.plc.clP, T.plc.nS, pf_s _ _, qs, _, _, _, _, rfl, hs1, T.clS, T.nI, sf_i _ _ _, k _ (s3.trans s5)⟩
    replace n1 : j ≠ 1 := fun z => n1 (by rw [z]; rfl)
    refine ⟨_, rfl, rfl, _, rfl, ite2 (fun e => ?_) (fun n2 => ?_)⟩
    · obtain rfl : j = 2 := by
        have := of_decide_eq_true e
        injection this with this
        omega
      refine ⟨_, rfl, _, _, _, rfl, fun p3 H3 s3 _ h3 => ⟨"a", _, 1, 1, m, 0, 1, rfl, len_a, .inr ⟨.inl ⟨p3, rfl, h3⟩, rfl⟩, ?_⟩⟩
      rw [ck2 m]
      refine kk.end_ (fun e z => z.same s3) fun k p5 H5 s5 hR => ?_
      obtain ⟨dr, qr, hr1, dq, qs, hq1, dz, hs1⟩ := hR
      exact ⟨p5, _, _, _, _, rfl, hr1, T.clR, T.nRP, rdf_p _ _ _, qr, _, _, _, _, rfl, hq1, T.plc.clP, T.plc.nS, pf_s _ _, qs, _, _, _, _, rfl, hs1, T.clS, T.nN, sf_n _ _ _, k _ (s3.trans s5)⟩
    replace n2 : j ≠ 2 := fun z => n2 (by rw [z]; rfl)
    refine ⟨_, rfl, rfl, _, rfl, ite2 (fun e => ?_) (fun n3 => ?_)⟩
    · obtain rfl : j = 3 := by
        have := of_decide_eq_true e
        injection this with this
        omega
      refine ⟨_, rfl, "a", _, 1, 0, 0, m, 1, rfl, len_a, .inr ⟨.inr ⟨rfl, rfl, rfl⟩, rfl⟩, ?_⟩
      rw [ck3 m]
      refine kk.end_ (fun e z => z.same (Same.refl H2)) fun k p5 H5 s5 hR => ?_
      obtain ⟨dr, qr, hr1, dq, qs, hq1, dz, hs1⟩ := hR
      exact ⟨p5, _, _, _, _, rfl, hr1, T.clR, T.nRP, rdf_p _ _ _, qr, _, _, _, _, rfl, hq1, T.plc.clP, T.plc.nS, pf_s _ _, qs, _, _, _, _, rfl, hs1, T.clS, T.nO, sf_one _ _ _, k _ ((Same.refl H2).trans s5)⟩
    replace n3 : j ≠ 3 := fun z => n3 (by rw [z]; rfl)
    refine ⟨_, rfl, rfl, _, rfl, ite2 (fun e => ?_) (fun n4 => ?_)⟩
    · obtain rfl : j = 4 := by
        have := of_decide_eq_true e
        injection this with this
        omega
      refine ⟨_, rfl, _, rfl, r_fd h1 (h4 rfl) (gg1 m) fun p3 H3 s3 h3 => ⟨"a", _, 1, 1, 0, 0, m, rfl, len_a, .inl ⟨p3, rfl, h3⟩, ?_⟩⟩
      rw [ck4 m]
      refine kk.end_ (fun e z => z.same s3) fun k p5 H5 s5 hR => ?_
      obtain ⟨dr, qr, hr1, dq, qs, hq1, dz, hs1⟩ := hR
      exact ⟨p5, _, _, _, _, rfl, hr1, T.clR, T.nRP, rdf_p _ _ _, qr, _, _, _, _, rfl, hq1, T.plc.clP, T.plc.nD, pf_d _ _, k _ (s3.trans s5)⟩
    replace n4 : j ≠ 4 := fun z => n4 (by rw [z]; rfl)
    refine ⟨_, rfl, rfl, _, rfl, ite2 (fun e => ?_) (fun n5 => ?_)⟩
    · obtain rfl : j = 5 := by
        have := of_decide_eq_true e
        injection this with this
        omega
      refine ⟨_, rfl, _, _, _, rfl, fun p3 H3 s3 _ h3 => ⟨"a", _, 0, m, 1, 0, rfl, len_a, .inl ⟨p3, rfl, h3⟩, ?_⟩⟩
      rw [ck5 m]
      refine kk.end_ (fun e z => z.same s3) fun k p5 H5 s5 hR => ?_
      obtain ⟨dr, qr, r5, g5, hr1, ⟨dz, hs1⟩, hr5, hg5⟩ := hR
      exact ⟨p5, _, _, _, _, rfl, hr1, T.clM, T.nMC, stf_c _ _ _ _ _, qr, _, _, _, _, rfl, hs1, T.clS, T.nI, sf_i _ _ _, k _ (s3.trans s5)⟩
    replace n5 : j ≠ 5 := fun z => n5 (by rw [z]; rfl)
    refine ⟨_, rfl, rfl, _, rfl, ite2 (fun e => ?_) (fun n6 => ?_)⟩
    · obtain rfl : j = 6 := by
        have := of_decide_eq_true e
        injection this with this
        omega
      refine ⟨_, rfl, _, _, _, rfl, fun p3 H3 s3 _ h3 => ⟨"a", _, 0, 1, m, 0, rfl, len_a, .inl ⟨p3, rfl, h3⟩, ?_⟩⟩
      rw [ck6 m]
      refine kk.end_ (fun e z => z.same s3) fun k p5 H5 s5 hR => ?_
      obtain ⟨dr, qr, r5, g5, hr1, ⟨dz, hs1⟩, hr5, hg5⟩ := hR
      exact ⟨p5, _, _, _, _, rfl, hr1, T.clM, T.nMC, stf_c _ _ _ _ _, qr, _, _, _, _, rfl, hs1, T.clS, T.nN, sf_n _ _ _, k _ (s3.trans s5)⟩
    replace n6 : j ≠ 6 := fun z => n6 (by rw [z]; rfl)
    refine ⟨_, rfl, rfl, _, rfl, ite2 (fun e => ?_) (fun n7 => ?_)⟩
    · obtain rfl : j = 7 := by
        have := of_decide_eq_true e
        injection this with this
        omega
      refine ⟨_, rfl, "a", _, 0, 0, 0, m, rfl, len_a, .inr ⟨rfl, rfl, rfl⟩, ?_⟩
      rw [ck7 m]
      refine kk.end_ (fun e z => z.same (Same.refl H2)) fun k p5 H5 s5 hR => ?_
      obtain ⟨dr, qr, r5, g5, hr1, ⟨dz, hs1⟩, hr5, hg5⟩ := hR
      exact ⟨p5, _, _, _, _, rfl, hr1, T.clM, T.nMC, stf_c _ _ _ _ _, qr, _, _, _, _, rfl, hs1, T.clS, T.nO, sf_one _ _ _, k _ ((Same.refl H2).trans s5)⟩
    replace n7 : j ≠ 7 := fun z => n7 (by rw [z]; rfl)
    refine ⟨_, rfl, rfl, _, rfl, ite2 (fun e => ?_) (fun n8 => ?_)⟩
    · obtain rfl : j = 8 := by
        have := of_decide_eq_true e
        injection this with this
        omega
      refine ⟨_, rfl, _, rfl, "a", _, m, 1, 0, 0, rfl, len_a, .inl ⟨p1, rfl, h1⟩, ?_⟩
      rw [ck8 m]
      refine kk.end_ (fun e z => z.same (Same.refl H2)) fun k p5 H5 s5 hR => ?_
      obtain ⟨dr, qr, r5, g5, hr1, ⟨dz, hs1⟩, hr5, hg5⟩ := hR
      exact ⟨p5, _, _, _, _, rfl, hr1, T.clM, T.nMK, stf_k _ _ _ _ _, k _ ((Same.refl H2).trans s5)⟩
    replace n8 : j ≠ 8 := fun z => n8 (by rw [z]; rfl)
    refine ⟨_, rfl, rfl, _, rfl, ite2 (fun e => ?_) (fun n9 => ?_)⟩
    · obtain rfl : j = 9 := by
        have := of_decide_eq_true e
        injection this with this
        omega
      refine ⟨_, rfl, _, rfl, r_atl (.inl ⟨p1, rfl, h1⟩) (g2_1 0) fun p3 H3 s3 h3 => ?_⟩
      have h1 := h1.same s3
      have h2 := h2.same s3
      refine ⟨_, rfl, _, rfl, r_imul h1 sm_i fun p4 H4 s4 h4 => ⟨_, rfl, r_add h4 (h2.same s4) fun p5 H5 s5 h5 => ?_⟩⟩
      refine r_atl (a := m) (b := 1) (c := 0) (.inl ⟨p5, rfl, by simpa using h5⟩) (g2_2 m) fun p6 H6 s6 h6 => ⟨sz2, fun l hl => ?_⟩
      have h3 := h3.same (s4.trans (s5.trans s6))
      have s7 := Same.new (.lst [.ref p3, .ref p6]) (s3.trans (s4.trans (s5.trans s6))) hl
      have s8 := Same.new (.lst [.ref p3, .ref p6]) (Same.refl H6) hl
      have cn := cnds2 (atl_cnd T.toPrTx (h3.same s8)) (atl_cnd T.toPrTx (h6.same s8))
      refine ⟨rfl, rfl, "a", .ref p1, 0, l, [.ref p3, .ref p6], [(1, 0, 0), (m, 1, 0)], 1, 0, 0, rfl, len_a, .inl ⟨p1, rfl, h1.same (s4.trans (s5.trans (s6.trans s8)))⟩, .inl (SqL.of upd_same), cn, ?_⟩
      have ek : ckStm 0 (([.ref p3, .ref p6] : List V).length : Nat) "a" [(1, 0, 0), (m, 1, 0)] 1 0 0 0 = wOk 9 m := ck9 m
      rw [ek]
      refine kk.end_ (fun e z => z.same s7) fun k p9 H9 s9 hR => ?_
      obtain ⟨dr, qr, r5, g5, hr1, hs1, hr5, hg5⟩ := hR
      obtain ⟨da, qa, ha1, db, hb1⟩ := h6.same (s8.trans s9)
      exact ⟨p9, _, _, _, _, rfl, hr1, T.clM, T.nMG, stf_g _ _ _ _ _, g5, _, _, _, rfl, rfl, hg5, at1, p6, _, _, _, _, rfl, ha1, T.clA, T.nAS, af_s _, qa, _, _, _, _, rfl, hb1, T.clS, T.nI, sf_i _ _ _, k _ (s7.trans s9)⟩
    replace n9 : j ≠ 9 := fun z => n9 (by rw [z]; rfl)
    refine ⟨_, rfl, rfl, _, rfl, ite2 (fun e => ?_) (fun n10 => ?_)⟩
    · obtain rfl : j = 10 := by
        have := of_decide_eq_true e
        injection this with this
        omega
      refine ⟨_, rfl, _, rfl, _, rfl, _, rfl, r_imul h2 sm_n fun p4 H4 s4 h4 => r_add (h1.same s4) h4 fun p5 H5 s5 h5 => ?_⟩
      refine r_atl (a := 1) (b := m) (c := 0) (.inl ⟨p5, rfl, by simpa using h5⟩) (g2_1 m) fun p6 H6 s6 h6 => ⟨sz1, fun l hl => ?_⟩
      have s7 := Same.new (.lst [.ref p6]) (s4.trans (s5.trans s6)) hl
      have s8 := Same.new (.lst [.ref p6]) (Same.refl H6) hl
      have cn := cnds1 (atl_cnd T.toPrTx (h6.same s8))
      refine ⟨rfl, rfl, "a", .ref p1, 0, l, [.ref p6], [(1, m, 0)], 1, 0, 0, rfl, len_a, .inl ⟨p1, rfl, h1.same s7⟩, .inl (SqL.of upd_same), cn, ?_⟩
      have ek : ckStm 0 (([.ref p6] : List V).length : Nat) "a" [(1, m, 0)] 1 0 0 0 = wOk 10 m := ck10 m
      rw [ek]
      refine kk.end_ (fun e z => z.same s7) fun k p9 H9 s9 hR => ?_
      obtain ⟨dr, qr, r5, g5, hr1, hs1, hr5, hg5⟩ := hR
      obtain ⟨da, qa, ha1, db, hb1⟩ := h6.same (s8.trans s9)
      exact ⟨p9, _, _, _, _, rfl, hr1, T.clM, T.nMG, stf_g _ _ _ _ _, g5, _, _, _, rfl, rfl, hg5, at0, p6, _, _, _, _, rfl, ha1, T.clA, T.nAS, af_s _, qa, _, _, _, _, rfl, hb1, T.clS, T.nN, sf_n _ _ _, k _ (s7.trans s9)⟩
    replace n10 : j ≠ 10 := fun z => n10 (by rw [z]; rfl)
    obtain rfl : j = 11 := by omega
    refine ⟨_, rfl, _, rfl, _, rfl, r_addI h1 fun p5 H5 s5 h5 => ?_⟩
    refine r_atl (a := 1) (b := 0) (c := m) (.inl ⟨p5, rfl, by simpa using h5⟩) (g2_1 0) fun p6 H6 s6 h6 => ⟨sz1, fun l hl => ?_⟩
    have s7 := Same.new (.tup [.ref p6]) (s5.trans s6) hl
    have s8 := Same.new (.tup [.ref p6]) (Same.refl H6) hl
    have cn := cnds1 (atl_cnd T.toPrTx (h6.same s8))
    refine ⟨rfl, rfl, "a", .ref p1, 0, l, [.ref p6], [(1, 0, m)], 1, 0, 0, rfl, len_a, .inl ⟨p1, rfl, h1.same s7⟩, .inr (SqT.of upd_same), cn, ?_⟩
    have ek : ckStm 0 (([.ref p6] : List V).length : Nat) "a" [(1, 0, m)] 1 0 0 0 = wOk 11 m := ck11 m
    rw [ek]
    refine kk.end_ (fun e z => z.same s7) fun k p9 H9 s9 hR => ?_
    obtain ⟨dr, qr, r5, g5, hr1, hs1, hr5, hg5⟩ := hR
    obtain ⟨da, qa, ha1, db, hb1⟩ := h6.same (s8.trans s9)
    exact ⟨p9, _, _, _, _, rfl, hr1, T.clM, T.nMG, stf_g _ _ _ _ _, g5, _, _, _, rfl, rfl, hg5, at0, p6, _, _, _, _, rfl, ha1, T.clA, T.nAS, af_s _, qa, _, _, _, _, rfl, hb1, T.clS, T.nO, sf_one _ _ _, k _ (s7.trans s9)⟩
end
end K23

set_option maxHeartbeats 4000000
namespace K23
open PySem PySem.Spec PyProof.Rows L2 Z
theorem stm0 : ckStm 0 0 "a" [] 0 0 0 0 = none := by
  rw [ckSt0]
  unfold ckS
  rw [ckN_in (v := 0) (by decide), ckN_in (v := 0) (by decide), ckN_in (v := 0) (by decide), ckN_in (v := 0) (by decide)]
  rfl
theorem ckLo {t u : P4} : ckLp 1 1 t u = (ckR t.1 t.2.1 t.2.2.1 t.2.2.2).or (ckR u.1 u.2.1 u.2.2.1 u.2.2.2) := by
  unfold ckLp ckLoop
  rw [ckM_in (v := 1) (by decide), ckN_in (x := "step") (v := 1) (by decide), if_neg (fun z => absurd z.1 (by decide))]
  simp only [no_or, or_no]
theorem ckRn : ckR 0 1 0 1 = none := by
  unfold ckR
  rw [ckN_in (v := 0) (by decide), ckN_in (v := 1) (by decide), ckN_in (v := 0) (by decide), ckN_in (v := 1) (by decide)]
  rfl
theorem ckR0 : ckR 0 0 0 1 = none := by
  unfold ckR
  rw [ckN_in (v := 0) (by decide), ckN_in (v := 0) (by decide), ckN_in (v := 0) (by decide), ckN_in (v := 1) (by decide)]
  rfl
theorem ckl12 (m : Int) : ckLp 1 m (0, 0, 0, 1) (0, 1, 0, 1) = wOk 12 m := by
  rw [wOk_n (j := 12) rfl wne.2.2.2.2.2]
  unfold ckLp ckLoop
  show (ckM "statements" 1 16).or ((ckN "step" m 1 16).or ((ckR 0 0 0 1).or ((ckR 0 1 0 1).or (if 1 < m ∧ (1 : Int) < 1 then some (Er.num "step" m) else none)))) = _
  rw [ckRn, ckR0, ckM_in (v := 1) (by decide), if_neg (fun z => absurd z.2 (by decide))]
  simp only [no_or, or_no]
theorem ckl13 (m : Int) : ckLp 1 1 (0, m, 0, 1) (0, 1, 0, 1) = wOk 13 m := by
  rw [wOk_n (j := 13) rfl wne.2.1, ckLo]
  show (ckR 0 m 0 1).or (ckR 0 1 0 1) = _
  rw [ckRn]
  unfold ckR
  rw [ckN_in (v := 0) (by decide), ckN_in (v := 0) (by decide), ckN_in (v := 1) (by decide)]
  simp only [no_or, or_no]
theorem ckl14 (m : Int) : ckLp 1 1 (0, 0, m, 1) (0, 1, 0, 1) = wOk 14 m := by
  rw [wOk_n (j := 14) rfl wne.2.2.1, ckLo]
  show (ckR 0 0 m 1).or (ckR 0 1 0 1) = _
  rw [ckRn]
  unfold ckR
  rw [ckN_in (v := 0) (by decide), ckN_in (v := 0) (by decide), ckN_in (v := 1) (by decide)]
  simp only [no_or, or_no]
theorem ckl15 (m : Int) : ckLp 1 1 (0, 1, 0, m) (0, 1, 0, 1) = wOk 15 m := by
  rw [wOk_n (j := 15) rfl wne.2.2.2.1, ckLo]
  show (ckR 0 1 0 m).or (ckR 0 1 0 1) = _
  rw [ckRn]
  unfold ckR
  rw [ckN_in (v := 0) (by decide), ckN_in (v := 1) (by decide), ckN_in (v := 0) (by decide)]
  simp only [no_or, or_no]
theorem ckl16 (m : Int) : ckLp 1 1 (0, 0, 0, 1) (0, m, 1, 1) = wOk 16 m := by
  rw [wOk_n (j := 16) rfl wne.2.1, ckLo]
  show (ckR 0 0 0 1).or (ckR 0 m 1 1) = _
  rw [ckR0]
  unfold ckR
  rw [ckN_in (v := 0) (by decide), ckN_in (v := 1) (by decide), ckN_in (v := 1) (by decide)]
  simp only [no_or, or_no]
theorem ckl17 (m : Int) : ckLp 1 1 (0, 0, 0, 1) (0, 1, m, 1) = wOk 17 m := by
  rw [wOk_n (j := 17) rfl wne.2.2.1, ckLo]
  show (ckR 0 0 0 1).or (ckR 0 1 m 1) = _
  rw [ckR0]
  unfold ckR
  rw [ckN_in (v := 0) (by decide), ckN_in (v := 1) (by decide), ckN_in (v := 1) (by decide)]
  simp only [no_or, or_no]
theorem ckl18 (m : Int) : ckLp 1 1 (0, 0, 0, 1) (0, 1, 0, m) = wOk 18 m := by
  rw [wOk_n (j := 18) rfl wne.2.2.2.1, ckLo]
  show (ckR 0 0 0 1).or (ckR 0 1 0 m) = _
  rw [ckR0]
  unfold ckR
  rw [ckN_in (v := 0) (by decide), ckN_in (v := 1) (by decide), ckN_in (v := 0) (by decide)]
  simp only [no_or, or_no]
theorem ckl19 (m : Int) : ckLp 1 1 (m, 1, 0, 1) (0, 1, 0, 1) = wOk 19 m := by
  rw [wOk_n (j := 19) rfl wne.1, ckLo]
  show (ckR m 1 0 1).or (ckR 0 1 0 1) = _
  rw [ckRn]
  unfold ckR
  rw [ckN_in (v := 1) (by decide), ckN_in (v := 0) (by decide), ckN_in (v := 1) (by decide)]
  simp only [no_or, or_no]
theorem ckl20 (m : Int) : ckLp 1 1 (0, 0, 0, 1) (m, 1, 0, 1) = wOk 20 m := by
  rw [wOk_n (j := 20) rfl wne.1, ckLo]
  show (ckR 0 0 0 1).or (ckR m 1 0 1) = _
  rw [ckR0]
  unfold ckR
  rw [ckN_in (v := 1) (by decide), ckN_in (v := 0) (by decide), ckN_in (v := 1) (by decide)]
  simp only [no_or, or_no]
def spKeptL (K : PySem.W.Frag) : Sp := fun vs H Q E => ∃ (j : Nat) (m : Int), vs = [.int j, .int m] ∧ 12 ≤ j ∧ j < 21 ∧ (j = 15 → 1 ≤ m) ∧ (j = 18 → 1 ≤ m) ∧ Out (wOk j m) (Rz K H E) (∀ H', Same H H' → Q (.int m) H')
section
variable {P : Program} {w : World} {K : PySem.W.Frag} {mg : Str → Option Value} {base : Heap}
theorem sc_law_kept_by_loop : FnScope ["_law_way", "_law_number", "_law_n", "_law_inner"] ["_law_way", "_law_number"] (defScope s_law_kept_by_loop) := ⟨rfl, rfl, rfl, by decide +kernel, rfl, by decide +kernel, by decide +kernel⟩
theorem ok_keptL {f : Addr} {fd : FuncData} (F : FnP K "_law_kept_by_loop" s_law_kept_by_loop f fd) (T : LwTx K mg) (M : MkS P w K mg base) (MSt : MkSt P w K mg base) (MLp : MkLp P w K mg base) (O : OpX P w K mg base) : FnOk P w K mg base (L2.CX P w) 9 f fd ["_law_way", "_law_number"] (spKeptL K) := by
  refine F.ok sc_law_kept_by_loop (fun vs H Q E h => ?_) (fun cdv A outer s H vs Q E hr h => ?_)
  · obtain ⟨j, m, rfl, _⟩ := h
    rfl
  · obtain ⟨j, m, rfl, hj0, hj, h15, h18, kk⟩ := h
    refine ⟨_, (pss_cons (ps_par (i := 2) (j := 3) (by rfl) sc_law_kept_by_loop.nd rfl rfl (by decide) rfl rfl (pa_cons (pe_S T.toStTx M hr (pa_cons pe_int (pa_cons pe_int (pa_cons pe_int pa_nil)))) (pa_cons (pe_lst (pa_cons (pe_StP (K := K) MSt rfl hr (fun σ => passAt (takes_of rfl rfl rfl rfl) σ) (pa_cons pe_str (pa_cons pe_int (pa_cons pe_int pa_nil)))) pa_nil)) pa_nil)) (by rfl))
      (pss_cons (ps_if (pt_cmpR op_eq (pv 0) pe_int (nomark _)) (pss_one (ps_ret (pe_fld (pe_LpK (K := K) MLp rfl hr (fun σ => passAt (takes_of rfl rfl rfl rfl) σ) (pa_cons pe_int (pa_cons (pv 2) (pa_cons (pv 3) pa_nil))) (pk_cons (pv 1) pk_nil)) rfl))) pss_nil)
      (pss_cons (ps_if (pt_cmpR op_eq (pv 0) pe_int (nomark _)) (pss_one (ps_ret (pe_fld (pe_fld (pe_fld (pe_LpP (K := K) MLp rfl hr (fun σ => passAt (takes_of rfl rfl rfl rfl) σ) (pa_cons (pe_op (op_ownI O.sm O.im hr) (pv 2) (pv 1)) (pa_cons (pv 2) (pa_cons (pv 3) pa_nil)))) rfl) rfl) rfl))) pss_nil)
      (pss_cons (ps_if (pt_cmpR op_eq (pv 0) pe_int (nomark _)) (pss_one (ps_ret (pe_fld (pe_fld (pe_fld (pe_LpP (K := K) MLp rfl hr (fun σ => passAt (takes_of rfl rfl rfl rfl) σ) (pa_cons (pv 1) (pa_cons (pv 2) (pa_cons (pv 3) pa_nil)))) rfl) rfl) rfl))) pss_nil)
      (pss_cons (ps_if (pt_cmpR op_eq (pv 0) pe_int (nomark _)) (pss_one (ps_ret (pe_fld (pe_fld (pe_LpP (K := K) MLp rfl hr (fun σ => passAt (takes_of rfl rfl rfl rfl) σ) (pa_cons (pe_fdS O.fd O.if_ hr (fun σ => passAt (takes_of rfl rfl rfl rfl) σ) (pv 2) (pv 1)) (pa_cons (pv 2) (pa_cons (pv 3) pa_nil)))) rfl) rfl))) pss_nil)
      (pss_cons (ps_if (pt_cmpR op_eq (pv 0) pe_int (nomark _)) (pss_one (ps_ret (pe_fld (pe_fld (pe_fld (pe_LpP (K := K) MLp rfl hr (fun σ => passAt (takes_of rfl rfl rfl rfl) σ) (pa_cons pe_int (pa_cons (pe_op (op_ownI O.sa O.ia hr) (pe_op (op_ownI O.sm O.im hr) (pv 2) (pv 1)) pe_int) (pa_cons (pv 3) pa_nil)))) rfl) rfl) rfl))) pss_nil)
      (pss_cons (ps_if (pt_cmpR op_eq (pv 0) pe_int (nomark _)) (pss_one (ps_ret (pe_fld (pe_fld (pe_fld (pe_LpP (K := K) MLp rfl hr (fun σ => passAt (takes_of rfl rfl rfl rfl) σ) (pa_cons pe_int (pa_cons (pe_op (op_ownI O.sa O.ia hr) (pv 2) (pv 1)) (pa_cons (pv 3) pa_nil)))) rfl) rfl) rfl))) pss_nil)
      (pss_cons (ps_if (pt_cmpR op_eq (pv 0) pe_int (nomark _)) (pss_one (ps_ret (pe_fld (pe_fld (pe_LpP (K := K) MLp rfl hr (fun σ => passAt (takes_of rfl rfl rfl rfl) σ) (pa_cons pe_int (pa_cons (pe_fdS O.fd O.if_ hr (fun σ => passAt (takes_of rfl rfl rfl rfl) σ) (pv 2) (pv 1)) (pa_cons (pv 3) pa_nil)))) rfl) rfl))) pss_nil)
      (pss_cons (ps_if (pt_cmpR op_eq (pv 0) pe_int (nomark _)) (pss_one (ps_ret (pe_fld (pe_fld (pe_fld (pe_LpP (K := K) MLp rfl hr (fun σ => passAt (takes_of rfl rfl rfl rfl) σ) (pa_cons (pe_S T.toStTx M hr (pa_cons (pv 1) (pa_cons pe_int (pa_cons pe_int pa_nil)))) (pa_cons (pv 2) (pa_cons (pv 3) pa_nil)))) rfl) rfl) rfl))) pss_nil)
      (pss_one (ps_ret (pe_fld (pe_fld (pe_fld (pe_LpP (K := K) MLp rfl hr (fun σ => passAt (takes_of rfl rfl rfl rfl) σ) (pa_cons pe_int (pa_cons (pe_S T.toStTx M hr (pa_cons (pv 1) (pa_cons pe_int (pa_cons pe_int pa_nil)))) (pa_cons (pv 3) pa_nil)))) rfl) rfl) rfl)))))))))))), ?_⟩
    refine ⟨_, _, _, rfl, fun p2 H1 s1 _ h2 => ⟨"a", _, 0, 0, 0, 0, rfl, len_a, .inr ⟨rfl, rfl, rfl⟩, Out.ok stm0 fun p3 H3 s3 _ => ⟨sz1, fun l hl => ⟨_, _, rfl, ?_⟩⟩⟩⟩
    obtain ⟨H2, e2⟩ : ∃ L, L = upd H3 l (.lst [.ref p3]) := ⟨_, rfl⟩
    rw [← e2]
    have sq : SqA K H2 l [.ref p3] := by rw [e2]; exact .inl (SqL.of upd_same)
    have s4 : Same H1 H2 := by rw [e2]; exact Same.new _ s3 hl
    have h2 := h2.same s4
    have s12 := s1.trans s4
    replace kk : Out (wOk j m) (Rz K H2 E) (∀ H', Same H2 H' → Q (.int m) H') := kk.end_ (fun e z => z.same s12) fun k H' s => k H' (s12.trans s)
    have hn : PlV K H2 (.ref p2) 0 1 0 1 := .inr ⟨.inl ⟨p2, rfl, h2⟩, rfl⟩
    have h0 : PlV K H2 (.int 0) 0 0 0 1 := .inr ⟨.inr ⟨rfl, rfl, rfl⟩, rfl⟩
    refine ⟨_, rfl, ?_⟩
    refine ⟨rfl, _, rfl, ite2 (fun e => ?_) (fun n12 => ?_)⟩
    · obtain rfl : j = 12 := by
        have := of_decide_eq_true e
        injection this with this
        omega
      refine ⟨_, rfl, _, rfl, _, rfl, rfl, rfl, _, _, l, _, (0, 0, 0, 1), (0, 1, 0, 1), m, false, rfl, h0, hn, sq, ?_⟩
      have ek : ckLp (([.ref p3] : List V).length : Nat) m (0, 0, 0, 1) (0, 1, 0, 1) = wOk 12 m := ckl12 m
      rw [ek]
      refine kk.end_ (fun e z => z) fun k p5 H5 s5 hR => ?_
      obtain ⟨dr, lo, hi, st, hr1, _⟩ := hR
      exact ⟨p5, _, _, _, _, rfl, hr1, T.clL, T.nSp, lp_st _ _ _ _ _, k _ s5⟩
    replace n12 : j ≠ 12 := fun z => n12 (by rw [z]; rfl)
    refine ⟨_, rfl, rfl, _, rfl, ite2 (fun e => ?_) (fun n13 => ?_)⟩
    · obtain rfl : j = 13 := by
        have := of_decide_eq_true e
        injection this with this
        omega
      refine ⟨_, rfl, _, rfl, r_mulI h2 sm_n fun p4 H4 s4 h4 => ⟨_, rfl, _, rfl, _, _, l, _, (0, m, 0, 1), (0, 1, 0, 1), 1, false, rfl, .inr ⟨.inl ⟨p4, rfl, by simpa using h4⟩, rfl⟩, hn.same s4, SqA.same sq s4, ?_⟩⟩
      have ek : ckLp (([.ref p3] : List V).length : Nat) 1 (0, m, 0, 1) (0, 1, 0, 1) = wOk 13 m := ckl13 m
      rw [ek]
      refine kk.end_ (fun e z => z.same s4) fun k p5 H5 s5 hR => ?_
      obtain ⟨dr, lo, hi, st, hr1, hlo, hhi, _⟩ := hR
      obtain ⟨dq, qs, hq1, dz, hs1⟩ := hlo
      exact ⟨p5, _, _, _, _, rfl, hr1, T.clL, T.nLo, lp_lo _ _ _ _ _, lo, _, _, _, _, rfl, hq1, T.plc.clP, T.plc.nS, pf_s _ _, qs, _, _, _, _, rfl, hs1, T.clS, T.nN, sf_n _ _ _, k _ (s4.trans s5)⟩
    replace n13 : j ≠ 13 := fun z => n13 (by rw [z]; rfl)
    refine ⟨_, rfl, rfl, _, rfl, ite2 (fun e => ?_) (fun n14 => ?_)⟩
    · obtain rfl : j = 14 := by
        have := of_decide_eq_true e
        injection this with this
        omega
      refine ⟨_, rfl, _, rfl, _, rfl, _, _, l, _, (0, 0, m, 1), (0, 1, 0, 1), 1, false, rfl, .inr ⟨.inr ⟨rfl, rfl, rfl⟩, rfl⟩, hn, sq, ?_⟩
      have ek : ckLp (([.ref p3] : List V).length : Nat) 1 (0, 0, m, 1) (0, 1, 0, 1) = wOk 14 m := ckl14 m
      rw [ek]
      refine kk.end_ (fun e z => z.same (Same.refl H2)) fun k p5 H5 s5 hR => ?_
      obtain ⟨dr, lo, hi, st, hr1, hlo, hhi, _⟩ := hR
      obtain ⟨dq, qs, hq1, dz, hs1⟩ := hlo
      exact ⟨p5, _, _, _, _, rfl, hr1, T.clL, T.nLo, lp_lo _ _ _ _ _, lo, _, _, _, _, rfl, hq1, T.plc.clP, T.plc.nS, pf_s _ _, qs, _, _, _, _, rfl, hs1, T.clS, T.nO, sf_one _ _ _, k _ ((Same.refl H2).trans s5)⟩
    replace n14 : j ≠ 14 := fun z => n14 (by rw [z]; rfl)
    refine ⟨_, rfl, rfl, _, rfl, ite2 (fun e => ?_) (fun n15 => ?_)⟩
    · obtain rfl : j = 15 := by
        have := of_decide_eq_true e
        injection this with this
        omega
      refine ⟨_, rfl, _, rfl, r_fd h2 (h15 rfl) (gg2 m) fun p4 H4 s4 h4 => ⟨_, rfl, _, rfl, _, _, l, _, (0, 1, 0, m), (0, 1, 0, 1), 1, false, rfl, .inl ⟨p4, rfl, h4⟩, hn.same s4, SqA.same sq s4, ?_⟩⟩
      have ek : ckLp (([.ref p3] : List V).length : Nat) 1 (0, 1, 0, m) (0, 1, 0, 1) = wOk 15 m := ckl15 m
      rw [ek]
      refine kk.end_ (fun e z => z.same s4) fun k p5 H5 s5 hR => ?_
      obtain ⟨dr, lo, hi, st, hr1, hlo, hhi, _⟩ := hR
      obtain ⟨dq, qs, hq1, dz, hs1⟩ := hlo
      exact ⟨p5, _, _, _, _, rfl, hr1, T.clL, T.nLo, lp_lo _ _ _ _ _, lo, _, _, _, _, rfl, hq1, T.plc.clP, T.plc.nD, pf_d _ _, k _ (s4.trans s5)⟩
    replace n15 : j ≠ 15 := fun z => n15 (by rw [z]; rfl)
    refine ⟨_, rfl, rfl, _, rfl, ite2 (fun e => ?_) (fun n16 => ?_)⟩
    · obtain rfl : j = 16 := by
        have := of_decide_eq_true e
        injection this with this
        omega
      refine ⟨_, rfl, _, rfl, r_mulI h2 sm_n fun p6 H6 s6 h6 => r_addI h6 fun p4 H4 s7 h4 => ?_⟩
      have s4 := s6.trans s7
      refine ⟨_, rfl, _, _, l, _, (0, 0, 0, 1), (0, m, 1, 1), 1, false, rfl, h0.same s4, .inr ⟨.inl ⟨p4, rfl, by simpa using h4⟩, rfl⟩, SqA.same sq s4, ?_⟩
      have ek : ckLp (([.ref p3] : List V).length : Nat) 1 (0, 0, 0, 1) (0, m, 1, 1) = wOk 16 m := ckl16 m
      rw [ek]
      refine kk.end_ (fun e z => z.same s4) fun k p5 H5 s5 hR => ?_
      obtain ⟨dr, lo, hi, st, hr1, hlo, hhi, _⟩ := hR
      obtain ⟨dq, qs, hq1, dz, hs1⟩ := hhi
      exact ⟨p5, _, _, _, _, rfl, hr1, T.clL, T.nHi, lp_hi _ _ _ _ _, hi, _, _, _, _, rfl, hq1, T.plc.clP, T.plc.nS, pf_s _ _, qs, _, _, _, _, rfl, hs1, T.clS, T.nN, sf_n _ _ _, k _ (s4.trans s5)⟩
    replace n16 : j ≠ 16 := fun z => n16 (by rw [z]; rfl)
    refine ⟨_, rfl, rfl, _, rfl, ite2 (fun e => ?_) (fun n17 => ?_)⟩
    · obtain rfl : j = 17 := by
        have := of_decide_eq_true e
        injection this with this
        omega
      refine ⟨_, rfl, _, rfl, r_addI h2 fun p4 H4 s4 h4 => ⟨_, rfl, _, _, l, _, (0, 0, 0, 1), (0, 1, m, 1), 1, false, rfl, h0.same s4, .inr ⟨.inl ⟨p4, rfl, by simpa using h4⟩, rfl⟩, SqA.same sq s4, ?_⟩⟩
      have ek : ckLp (([.ref p3] : List V).length : Nat) 1 (0, 0, 0, 1) (0, 1, m, 1) = wOk 17 m := ckl17 m
      rw [ek]
      refine kk.end_ (fun e z => z.same s4) fun k p5 H5 s5 hR => ?_
      obtain ⟨dr, lo, hi, st, hr1, hlo, hhi, _⟩ := hR
      obtain ⟨dq, qs, hq1, dz, hs1⟩ := hhi
      exact ⟨p5, _, _, _, _, rfl, hr1, T.clL, T.nHi, lp_hi _ _ _ _ _, hi, _, _, _, _, rfl, hq1, T.plc.clP, T.plc.nS, pf_s _ _, qs, _, _, _, _, rfl, hs1, T.clS, T.nO, sf_one _ _ _, k _ (s4.trans s5)⟩
    replace n17 : j ≠ 17 := fun z => n17 (by rw [z]; rfl)
    refine ⟨_, rfl, rfl, _, rfl, ite2 (fun e => ?_) (fun n18 => ?_)⟩
    · obtain rfl : j = 18 := by
        have := of_decide_eq_true e
        injection this with this
        omega
      refine ⟨_, rfl, _, rfl, r_fd h2 (h18 rfl) (gg2 m) fun p4 H4 s4 h4 => ⟨_, rfl, _, _, l, _, (0, 0, 0, 1), (0, 1, 0, m), 1, false, rfl, h0.same s4, .inl ⟨p4, rfl, h4⟩, SqA.same sq s4, ?_⟩⟩
      have ek : ckLp (([.ref p3] : List V).length : Nat) 1 (0, 0, 0, 1) (0, 1, 0, m) = wOk 18 m := ckl18 m
      rw [ek]
      refine kk.end_ (fun e z => z.same s4) fun k p5 H5 s5 hR => ?_
      obtain ⟨dr, lo, hi, st, hr1, hlo, hhi, _⟩ := hR
      obtain ⟨dq, qs, hq1, dz, hs1⟩ := hhi
      exact ⟨p5, _, _, _, _, rfl, hr1, T.clL, T.nHi, lp_hi _ _ _ _ _, hi, _, _, _, _, rfl, hq1, T.plc.clP, T.plc.nD, pf_d _ _, k _ (s4.trans s5)⟩
    replace n18 : j ≠ 18 := fun z => n18 (by rw [z]; rfl)
    refine ⟨_, rfl, rfl, _, rfl, ite2 (fun e => ?_) (fun n19 => ?_)⟩
    · obtain rfl : j = 19 := by
        have := of_decide_eq_true e
        injection this with this
        omega
      refine ⟨_, rfl, _, _, _, rfl, fun p4 H4 s4 _ h4 => ⟨_, rfl, _, rfl, _, _, l, _, (m, 1, 0, 1), (0, 1, 0, 1), 1, false, rfl, .inr ⟨.inl ⟨p4, rfl, h4⟩, rfl⟩, hn.same s4, SqA.same sq s4, ?_⟩⟩
      have ek : ckLp (([.ref p3] : List V).length : Nat) 1 (m, 1, 0, 1) (0, 1, 0, 1) = wOk 19 m := ckl19 m
      rw [ek]
      refine kk.end_ (fun e z => z.same s4) fun k p5 H5 s5 hR => ?_
      obtain ⟨dr, lo, hi, st, hr1, hlo, hhi, _⟩ := hR
      obtain ⟨dq, qs, hq1, dz, hs1⟩ := hlo
      exact ⟨p5, _, _, _, _, rfl, hr1, T.clL, T.nLo, lp_lo _ _ _ _ _, lo, _, _, _, _, rfl, hq1, T.plc.clP, T.plc.nS, pf_s _ _, qs, _, _, _, _, rfl, hs1, T.clS, T.nI, sf_i _ _ _, k _ (s4.trans s5)⟩
    replace n19 : j ≠ 19 := fun z => n19 (by rw [z]; rfl)
    obtain rfl : j = 20 := by omega
    refine ⟨_, rfl, _, _, _, rfl, fun p4 H4 s4 _ h4 => ⟨_, rfl, _, _, l, _, (0, 0, 0, 1), (m, 1, 0, 1), 1, false, rfl, h0.same s4, .inr ⟨.inl ⟨p4, rfl, h4⟩, rfl⟩, SqA.same sq s4, ?_⟩⟩
    have ek : ckLp (([.ref p3] : List V).length : Nat) 1 (0, 0, 0, 1) (m, 1, 0, 1) = wOk 20 m := ckl20 m
    rw [ek]
    refine kk.end_ (fun e z => z.same s4) fun k p5 H5 s5 hR => ?_
    obtain ⟨dr, lo, hi, st, hr1, hlo, hhi, _⟩ := hR
    obtain ⟨dq, qs, hq1, dz, hs1⟩ := hhi
    exact ⟨p5, _, _, _, _, rfl, hr1, T.clL, T.nHi, lp_hi _ _ _ _ _, hi, _, _, _, _, rfl, hq1, T.plc.clP, T.plc.nS, pf_s _ _, qs, _, _, _, _, rfl, hs1, T.clS, T.nI, sf_i _ _ _, k _ (s4.trans s5)⟩
end
end K23

set_option maxHeartbeats 4000000
namespace K23
open PySem PySem.Spec PyProof.Rows L2 Z
structure ErTx (K : PySem.W.Frag) (mg : Str → Option Value) : Prop where
  EB : EC K mg "BadNumber" ["what", "number"]
  ET : EC K mg "TooMany" ["what", "many", "limit"]
  EN : EC K mg "BadName" ["name"]
  gLE : mg "LoopError" = some (.ref (He.ga K "LoopError"))
  VE : mg "ValueError" = none
  kBL : PySem.W.kitOne K (.ref (CB K)) (.ref (He.ga K "LoopError")) = some true
  kBV : PySem.W.kitOne K (.ref (CB K)) (.type "ValueError") = some true
  xBB : PySem.W.exmOne K (.ref (CB K)) (.ref (CB K)) = some true
  xNN : PySem.W.exmOne K (.ref (He.ga K "BadName")) (.ref (He.ga K "BadName")) = some true
  xTT : PySem.W.exmOne K (.ref (He.ga K "TooMany")) (.ref (He.ga K "TooMany")) = some true
  xNT : PySem.W.exmOne K (.ref (He.ga K "BadName")) (.ref (He.ga K "TooMany")) = some false
  xBT : PySem.W.exmOne K (.ref (CB K)) (.ref (He.ga K "TooMany")) = some false
  xBN : PySem.W.exmOne K (.ref (CB K)) (.ref (He.ga K "BadName")) = some false
/-- isinstance(e, c), e the exception with fields that the suite holds -/
theorem call_isEd {X : Cx} {K : PySem.W.Frag} {a D : Addr} {oe : Obj} {cls : Value} {d : Option Addr} {pn : List (Addr × Obj)} (hK : X.K = K) (C : ExcC K D) (hz : Zc cls d oe) (hf : ∃ vs, oe.data = .fields vs) :
    CallR (X.suite a ((a, oe) :: pn)) (.builtin "isinstance") (fun xs H Q => ∃ (c : V) (u : Value) (b : Bool) (dd : Addr) (fs : List (Str × V)), xs = [.ref a, c] ∧ ClsV c u ∧ cls = .ref D ∧ d = some dd ∧ H dd = some (.xd fs) ∧ PySem.W.kitOne K (.ref D) u = some b ∧ Q (.bl b) H) := by
  subst hK
  intro pins s σ H xs us Q I r h
  obtain ⟨c, u, b, dd, fs, rfl, k, ec, ed, hdd, e, q⟩ := h
  obtain ⟨u1, u2, rfl, r1, r2⟩ := vals2 r
  cases (show u1 = Value.ref a from r1)
  have e2 := k.eq r2
  subst e2
  subst ec
  subst ed
  obtain ⟨ha, _⟩ := I.pin (a, oe) (List.mem_append_left _ List.mem_cons_self)
  obtain ⟨vs, hd⟩ := hf
  have hx : ObjOk X.prog X.w H s.heap dd (.xd fs) := I.hok dd _ hdd
  obtain ⟨mA, hns, hr⟩ := hx
  obtain ⟨od, ho, hl⟩ := lookIn_ns hns
  have J : PySem.W.InstAt s.heap a oe D (some od) := ⟨ha, hz.1, by unfold PySem.W.notCls; rw [hd] <;> rfl, by rw [hz.2]; exact ho⟩
  have hcl : (PySem.W.clsIn X.K D).isSome = true := by
    obtain ⟨cd, hc, _⟩ := PySem.W.any_some C.hd
    rw [hc]
    rfl
  exact PySem.W.kia_one (PySem.W.kitx_exc hcl C.hg C.hk C.hs C.ha C.hn C.ht C.hm) I.kIn J e (fun z => nomatch z) fun tk => ⟨.bl b, H, I.tok tk, rfl, q⟩
theorem pe_dn0 {X : Cx} {k j : Nat} {x : Str} {sp : Sp} {p pos : Pos} (D : Dn X.prog X.w X.K X.mg X.base j x [] sp) (hr : Room k X.A) (hjk : j ≤ k := by decide) (hg : Gl X x := by rfl) (hdb : (x == ("__debug__" : Str)) = false := by decide) :
    PE X (.Call (.Name x p) [] [] pos) (tCall sp [] E0 tNil) := by
  obtain ⟨f, fd, G, hm, hk, hb⟩ := D
  exact pe_call0 G (hr.mono hjk) hg hm hk hb .nil pass0 hdb
/-! the words of the bounds, as data -/
theorem words_ok : ∀ b ∈ bnds, PyData.strOk b.1 = true := by decide +kernel
theorem kept_ok : PyData.strOk ("kept" : Str) = true := by decide +kernel
theorem two_shaped {x : Str} (e : PyData.strOk x = true) (n : Int) : SeqAt.shaped (.tuple [.str x, .int n]) = true := by simp [SeqAt.shaped, PyData.canLay0, PyData.canLayAll0, PyData.depth, PyData.depthAll, e]
theorem four_shaped {x : Str} (e : PyData.strOk x = true) (n : Int) : SeqAt.shaped (.tuple [.str x, .int n, .bool true, .bool true]) = true := by simp [SeqAt.shaped, PyData.canLay0, PyData.canLayAll0, PyData.depth, PyData.depthAll, e]
theorem dp2 {K : PySem.W.Frag} {H : Hp} {t : Addr} {x : Str} {n : Int} (h : H t = some (.tup [.str x, .int n])) : Dp K H (.ref t) (.tuple [.str x, .int n]) := .tup (SqT.of h) (.cons (.str _) (.cons (.int _) .nil))
theorem dp4 {K : PySem.W.Frag} {H : Hp} {t : Addr} {x : Str} {n : Int} (h : H t = some (.tup [.str x, .int n, .bl true, .bl true])) : Dp K H (.ref t) (.tuple [.str x, .int n, .bool true, .bool true]) := .tup (SqT.of h) (.cons (.str _) (.cons (.int _) (.cons (.bl _) (.cons (.bl _) .nil))))
theorem look_w {w : Str} {v : Int} : (Er.num w v).fs.lookup ("what" : Str) = some (.str w) := by
  show List.lookup ("what" : Str) [(("number" : Str), V.int v), (("what" : Str), V.str w)] = _
  rw [look_tl (by decide +kernel), look_hd]
theorem look_n {w : Str} {v : Int} : (Er.num w v).fs.lookup ("number" : Str) = some (.int v) := look_hd
theorem look_x {x : Str} : (Er.name x).fs.lookup ("name" : Str) = some (.str x) := look_hd
theorem look_mw {w : Str} {m l : Int} : (Er.many w m l).fs.lookup ("what" : Str) = some (.str w) := by
  show List.lookup ("what" : Str) [(("limit" : Str), V.int l), (("many" : Str), V.int m), (("what" : Str), V.str w)] = _
  rw [look_tl (by decide +kernel), look_tl (by decide +kernel), look_hd]
theorem look_mm {w : Str} {m l : Int} : (Er.many w m l).fs.lookup ("many" : Str) = some (.int m) := by
  show List.lookup ("many" : Str) [(("limit" : Str), V.int l), (("many" : Str), V.int m), (("what" : Str), V.str w)] = _
  rw [look_tl (by decide +kernel), look_hd]
theorem look_ml {w : Str} {m l : Int} : (Er.many w m l).fs.lookup ("limit" : Str) = some (.int l) := look_hd
def spNumR (K : PySem.W.Frag) : Sp := fun vs H Q _ => ∃ (j : Nat) (m : Int), vs = [.int j, .int m] ∧ j < 21 ∧ (j = 4 → 1 ≤ m) ∧ (j = 15 → 1 ≤ m) ∧ (j = 18 → 1 ≤ m) ∧ ∀ H', Same H H' → Q (.bl true) H'
def told (j : Nat) (x : Str) (m : Int) : List V := match wOk j m with
  | none => [.str "kept", .int m]
  | some _ => [.str x, .int m, .bl true, .bl true]
theorem told_no {j : Nat} {x : Str} {m : Int} (h : wOk j m = none) : told j x m = [.str "kept", .int m] := by
  unfold told
  rw [h]
theorem told_yes {j : Nat} {x : Str} {m : Int} {e : Er} (h : wOk j m = some e) : told j x m = [.str x, .int m, .bl true, .bl true] := by
  unfold told
  rw [h]
theorem wOk_is {j : Nat} {x : Str} {lo hi m : Int} (h : bnds[j]? = some (x, lo, hi)) : wOk j m = if lo ≤ m ∧ m ≤ hi ∧ (x ≠ "factor" ∨ m ≠ 0) then none else some (.num x m) := by
  unfold wOk
  rw [h]
theorem wOk_bad {j : Nat} {x : Str} {lo hi m : Int} {e : Er} (h : bnds[j]? = some (x, lo, hi)) (g : wOk j m = some e) : e = .num x m := by
  rw [wOk_is h] at g
  split at g
  · cases g
  · cases g
    rfl
section
variable {P : Program} {w : World} {K : PySem.W.Frag} {mg : Str → Option Value} {base : Heap}
theorem sc_law_number_right : FnScope ["_law_way", "_law_number", "_law_word", "_law_least", "_law_most", "_law_told", "e"] ["_law_way", "_law_number"] (defScope s_law_number_right) := ⟨rfl, rfl, rfl, by decide +kernel, rfl, by decide +kernel, by decide +kernel⟩
theorem ok_numR {f : Addr} {fd : FuncData} (F : FnP K "_law_number_right" s_law_number_right f fd) (T : LwTx K mg) (R : ErTx K mg) (dBounds : Dn P w K mg base 1 "_law_bounds" [] spBounds)
    (dKept : Dx P w K mg base 9 "_law_kept" ["_law_way", "_law_number"] (spKept K)) (dKeptL : Dx P w K mg base 9 "_law_kept_by_loop" ["_law_way", "_law_number"] (spKeptL K)) : FnOk P w K mg base CX0 10 f fd ["_law_way", "_law_number"] (spNumR K) := by
  refine F.ok sc_law_number_right (fun vs H Q E h => ?_) (fun cdv A outer s H vs Q E hr h => ?_)
  · obtain ⟨j, m, rfl, _⟩ := h
    rfl
  · obtain ⟨j, m, rfl, hj, h4, h15, h18, k⟩ := h
    refine ⟨_, PSs.nox (pss_cons (ps_asg (pe_ix ix_list (pe_dn0 dBounds hr) (pv 0) (fun _ _ => rfl)) (pg_tup (by rfl) (pgs_cons (pg_name (i := 2) sc_law_number_right.nd rfl (.inl rfl)) (pgs_cons (pg_name (i := 3) sc_law_number_right.nd rfl (.inl rfl)) (pgs_cons (pg_name (i := 4) sc_law_number_right.nd rfl (.inl rfl)) pgs_nil)))))
      (pss_cons (ps_set (i := 5) sc_law_number_right.nd rfl (Or.inl rfl) pe_non)
      (pss_cons (ps_try_as (i := 6) rfl rfl sc_law_number_right.nd rfl rfl ⟨rfl, by decide, .inl R.EB.gC⟩ takes0 (fun W pn xe tk _ => (pss_one (ps_set (i := 5) sc_law_number_right.nd rfl (Or.inl rfl) (pe_tup (pa_cons pe_str (pa_cons (pe_ifExp (pt_cmpR op_lt (pv 0) pe_int (nomark _)) (pe_dx (K := K) dKept rfl hr (fun σ => passAt tk σ) (pa_cons (pv 0) (pa_cons (pv 1) pa_nil))) (pe_dx (K := K) dKeptL rfl hr (fun σ => passAt tk σ) (pa_cons (pv 0) (pa_cons (pv 1) pa_nil)))) pa_nil)))))) (fun a oe cls d pn hz hf => (pss_one (ps_set (i := 5) sc_law_number_right.nd rfl (Or.inl rfl) (pe_tup (pa_cons (pe_xf R.EB.ex.xf (R.EB.na _ (by simp)) hz hf (pv 6)) (pa_cons (pe_xf R.EB.ex.xf (R.EB.na _ (by simp)) hz hf (pv 6)) (pa_cons (pe_callB (call_isEd (K := K) rfl R.EB.ex.ec hz hf) (by rfl) T.isi (by decide +kernel) (pa_cons (pv 6) (pa_cons (pe_glob (v := .ref (He.ga K "LoopError")) rfl R.gLE rfl) pa_nil))) (pa_cons (pe_callB (call_isEd (K := K) rfl R.EB.ex.ec hz hf) (by rfl) T.isi (by decide +kernel) (pa_cons (pv 6) (pa_cons (pe_bltn (v := .ty "ValueError") (by rfl) R.VE (by decide +kernel) rfl) pa_nil))) pa_nil)))))))))
      (pss_cons (ps_if (PW.pt (pw_and (pt_chain op_le op_le (pv 3) (pv 1) (pv 4)) (pw_and1 (PW.pt (pw_or (pt_cmpR op_ne (pv 2) pe_str (nomark _)) (pw_or1 (pt_cmpR op_ne (pv 1) pe_int (nomark _)))))))) (pss_one (ps_ret (pe_cmpR (op_eqD hr.units) (pv 5) (pe_tup (pa_cons pe_str (pa_cons (pv 1) pa_nil))) (nomark _)))) pss_nil)
      (pss_one (ps_ret (pe_cmpR (op_eqD hr.units) (pv 5) (pe_tup (pa_cons (pv 2) (pa_cons (pv 1) (pa_cons pe_bl (pa_cons pe_bl pa_nil))))) (nomark _)))))))), ?_⟩
    refine ⟨rfl, fun l H1 s1 hB => ?_⟩
    obtain ⟨xs, t, ⟨x, lo, hi⟩, hl, hx, hb, ht⟩ := bnd_at hB hj
    have hxo : PyData.strOk x = true := words_ok _ (List.mem_of_getElem? hb)
    refine ⟨_, rfl, l, xs, j, _, rfl, rfl, SqL.of hl, atI_nat hx, t, _, rfl, SqT.of ht, rfl, _, _, rfl, _, _, rfl, _, _, rfl, rfl, ?_⟩
    refine norm (σ' := [some (.int j), some (.int m), some (.str x), some (.int lo), some (.int hi), none, none]) rfl ?_
    dsimp only
    refine normG (i := 5) (v := .non) (σ := [some (.int j), some (.int m), some (.str x), some (.int lo), some (.int hi), none, none]) (σ' := [some (.int j), some (.int m), some (.str x), some (.int lo), some (.int hi), some .non, none]) rfl ?_
    dsimp only
    refine mid (fun σ' H' => ∃ t, σ' = [some (.int j), some (.int m), some (.str x), some (.int lo), some (.int hi), some (.ref t), none] ∧ Same H H' ∧ H' t = some (.tup (told j x m))) (fun key => ?_) ?_
    · have main : ∀ {E' : XK} {q : Prop}, (∀ d H2, wOk j m ≠ none → Same H1 H2 → H2 d = some (.xd (Er.num x m).fs) → E' (.ref (CB K)) (some d) H2) → (wOk j m = none → q) → Out (wOk j m) (Rz K H1 E') q := by
        intro E' q a1 a2
        refine ⟨fun e he d H2 s2 hd => ?_, a2⟩
        have ee := wOk_bad hb he
        subst ee
        exact a1 d H2 (by rw [he]; exact fun z => nomatch z) s2 hd
      refine ⟨_, rfl, _, _, rfl, rfl, _, rfl, ite2 (fun c => ?_) (fun c => ?_)⟩
      · refine ⟨_, rfl, _, rfl, j, m, rfl, by have := of_decide_eq_true c; omega, h4, main (fun d H2 hn s2 hd => ?_) (fun hn H2 s2 => ?_)⟩
        · obtain ⟨e, hw⟩ := Option.ne_none_iff_exists'.mp hn
          exact ⟨true, R.xBB, fun _ a ha => ⟨_, rfl, rfl, rfl, d, _, _, rfl, hd, look_w, _, rfl, rfl, rfl, d, _, _, rfl, hd, look_n, _, rfl, _, _, true, d, _, rfl, .own _, rfl, rfl, hd, R.kBL, _, rfl, _, _, true, d, _, rfl, .ty _, rfl, rfl, hd, R.kBV, sz4, fun t ht => key _ _ ⟨t, rfl, s1.trans (Same.new _ s2 ht), by rw [told_yes hw]; exact upd_same⟩⟩, fun q => Bool.noConfusion q⟩
        · exact ⟨sz2, fun t ht => key _ _ ⟨t, rfl, s1.trans (Same.new _ s2 ht), by rw [told_no hn]; exact upd_same⟩⟩
      · refine ⟨_, rfl, _, rfl, j, m, rfl, by have : ¬ ((j : Int) < 12) := fun z => c (decide_eq_true z); omega, by omega, h15, h18, main (fun d H2 hn s2 hd => ?_) (fun hn H2 s2 => ?_)⟩
        · obtain ⟨e, hw⟩ := Option.ne_none_iff_exists'.mp hn
          exact ⟨true, R.xBB, fun _ a ha => ⟨_, rfl, rfl, rfl, d, _, _, rfl, hd, look_w, _, rfl, rfl, rfl, d, _, _, rfl, hd, look_n, _, rfl, _, _, true, d, _, rfl, .own _, rfl, rfl, hd, R.kBL, _, rfl, _, _, true, d, _, rfl, .ty _, rfl, rfl, hd, R.kBV, sz4, fun t ht => key _ _ ⟨t, rfl, s1.trans (Same.new _ s2 ht), by rw [told_yes hw]; exact upd_same⟩⟩, fun q => Bool.noConfusion q⟩
        · exact ⟨sz2, fun t ht => key _ _ ⟨t, rfl, s1.trans (Same.new _ s2 ht), by rw [told_no hn]; exact upd_same⟩⟩
    rintro σ H3 ⟨t3, rfl, s3, ht3⟩
    have no4 : ∀ {B : Prop}, ¬ (lo ≤ m ∧ m ≤ hi ∧ (x ≠ "factor" ∨ m ≠ 0)) → H3 t3 = some (.tup [.str x, .int m, .bl true, .bl true]) := fun {B} z => by
      have e : wOk j m = some (.num x m) := by rw [wOk_is hb, if_neg z]
      rw [told_yes e] at ht3
      exact ht3
    have yes2 : (lo ≤ m ∧ m ≤ hi ∧ (x ≠ "factor" ∨ m ≠ 0)) → H3 t3 = some (.tup [.str "kept", .int m]) := fun z => by
      have e : wOk j m = none := by rw [wOk_is hb, if_pos z]
      rw [told_no e] at ht3
      exact ht3
    have fin4 : ∀ {t4 : Addr}, H3 t3 = some (.tup [.str x, .int m, .bl true, .bl true]) → H3 t4 = none → ∃ d e, Dp K (upd H3 t4 (.tup [.str x, .int m, .bl true, .bl true])) (.ref t3) d ∧ Dp K (upd H3 t4 (.tup [.str x, .int m, .bl true, .bl true])) (.ref t4) e ∧ SeqAt.shaped d = true ∧ SeqAt.shaped e = true ∧ Q (.bl (PyData.eqv d e)) (upd H3 t4 (.tup [.str x, .int m, .bl true, .bl true])) := fun {t4} g h4 => by
      refine ⟨_, _, dp4 (at_upd _ g h4), dp4 upd_same, four_shaped hxo _, four_shaped hxo _, ?_⟩
      rw [SeqAt.eqv_refl _ (SeqAt.canLay_of_shaped (four_shaped hxo _))]
      exact k _ (s3.trans (Same.new _ (Same.refl _) h4))
    have fin2 : ∀ {t4 : Addr}, H3 t3 = some (.tup [.str "kept", .int m]) → H3 t4 = none → ∃ d e, Dp K (upd H3 t4 (.tup [.str "kept", .int m])) (.ref t3) d ∧ Dp K (upd H3 t4 (.tup [.str "kept", .int m])) (.ref t4) e ∧ SeqAt.shaped d = true ∧ SeqAt.shaped e = true ∧ Q (.bl (PyData.eqv d e)) (upd H3 t4 (.tup [.str "kept", .int m])) := fun {t4} g h4 => by
      refine ⟨_, _, dp2 (at_upd _ g h4), dp2 upd_same, two_shaped kept_ok _, two_shaped kept_ok _, ?_⟩
      rw [SeqAt.eqv_refl _ (SeqAt.canLay_of_shaped (two_shaped kept_ok _))]
      exact k _ (s3.trans (Same.new _ (Same.refl _) h4))
    refine ⟨_, rfl, _, rfl, _, _, rfl, rfl, _, rfl, ite2 (fun c1 => ⟨_, rfl, _, _, rfl, rfl, _, rfl, ?_⟩) (fun c1 => ⟨_, rfl, ?_⟩)⟩
    · have c1 := of_decide_eq_true c1
      refine ite2 (fun c2 => ?_) (fun c2 => iteF ⟨_, rfl, _, rfl, _, rfl, sz4, fun t4 h4 => fin4 (no4 (B := True) fun z => c2 (decide_eq_true z.2.1)) h4⟩)
      have c2 := of_decide_eq_true c2
      refine ⟨_, rfl, rfl, _, rfl, ite2 (fun c3 => iteT ⟨_, rfl, _, rfl, sz2, fun t4 h4 => fin2 (yes2 ⟨c1, c2, .inl fun z => ?_⟩) h4⟩) (fun c3 => ⟨_, rfl, rfl, _, rfl, ite2 (fun c4 => ⟨_, rfl, _, rfl, sz2, fun t4 h4 => fin2 (yes2 ⟨c1, c2, .inr fun z => ?_⟩) h4⟩) (fun c4 => ⟨_, rfl, _, rfl, _, rfl, sz4, fun t4 h4 => fin4 (no4 (B := True) fun z => ?_) h4⟩)⟩)⟩
      · rw [z] at c3
        simp at c3
      · rw [z] at c4
        simp at c4
      · simp at c3 c4
        exact z.2.2.elim (fun y => y c3) (fun y => y c4)
    · refine iteF (iteF ⟨_, rfl, _, rfl, _, rfl, sz4, fun t4 h4 => fin4 (no4 (B := True) fun z => c1 (decide_eq_true z.1)) h4⟩)
end
end K23

set_option maxHeartbeats 4000000
namespace K23
open PySem PySem.Spec PyProof.Rows L2 Z
def spNameT : Sp := fun vs H Q _ => ∃ (x : Str) (i : Int), vs = [.str x, .int i] ∧ x.length ≤ 1000 ∧ (isName x = true → ∀ H', Same H H' → Q (.str x) H') ∧ (isName x = false → ∀ t H', Same H H' → H' t = some (.tup [.str x]) → Q (.ref t) H')
theorem ckRd_n (x : Str) : ckRead x 1 0 0 0 1 = ckA x := by
  unfold ckRead ckP ckS
  rw [ckN_in (v := 1) (by decide), ckN_in (v := 0) (by decide), ckN_in (v := 0) (by decide), ckN_in (v := 0) (by decide), ckN_in (v := 1) (by decide), if_neg (by decide)]
  simp only [no_or, or_no]
theorem ckSt_n (x : Str) : ckStm 0 0 x [] 0 0 0 0 = ckA x := by
  unfold ckStm ckCs ckS
  rw [ckM_in (v := 0) (by decide), ckM_in (v := 0) (by decide), ckN_in (v := 0) (by decide), ckN_in (v := 0) (by decide), ckN_in (v := 0) (by decide), ckN_in (v := 0) (by decide)]
  simp only [no_or, or_no]
theorem ckA_out {x : Str} {r : Er → Prop} {q : Prop} (h1 : isName x = false → r (.name x)) (h2 : isName x = true → q) : Out (ckA x) r q := by
  unfold ckA
  by_cases h : isName x = true
  · rw [if_pos h]
    exact Out.ok rfl (h2 h)
  · rw [if_neg h]
    exact Out.bad rfl (h1 (by simpa using h))
section
variable {P : Program} {w : World} {K : PySem.W.Frag} {mg : Str → Option Value} {base : Heap}
theorem sc_law_name_told : FnScope ["_law_name_here", "_law_way", "_law_told", "e"] ["_law_name_here", "_law_way"] (defScope s_law_name_told) := ⟨rfl, rfl, rfl, by decide +kernel, rfl, by decide +kernel, by decide +kernel⟩
theorem ok_nameT {f : Addr} {fd : FuncData} (F : FnP K "_law_name_told" s_law_name_told f fd) (T : LwTx K mg) (R : ErTx K mg) (MRd : MkRd P w K mg base) (MSt : MkSt P w K mg base) : FnOk P w K mg base CX0 9 f fd ["_law_name_here", "_law_way"] spNameT := by
  refine F.ok sc_law_name_told (fun vs H Q E h => ?_) (fun cdv A outer s H vs Q E hr h => ?_)
  · obtain ⟨x, i, rfl, _⟩ := h
    rfl
  · obtain ⟨x, i, rfl, hx, k1, k2⟩ := h
    refine ⟨_, PSs.nox (pss_cons (ps_set (i := 2) sc_law_name_told.nd rfl (Or.inl rfl) pe_non)
      (pss_cons (ps_try_as (i := 3) rfl rfl sc_law_name_told.nd rfl rfl ⟨rfl, by decide, .inl R.EN.gC⟩ takes0 (fun W pn xe tk _ => (pss_one (ps_set (i := 2) sc_law_name_told.nd rfl (Or.inl rfl) (pe_ifExp (pt_cmpR op_eq (pv 1) pe_int (nomark _)) (pe_fldK (K := K) rfl (pe_RdP (K := K) MRd rfl hr (fun σ => passAt tk σ) (pa_cons (pv 0) (pa_cons pe_int pa_nil)))) (pe_fldK (K := K) rfl (pe_StP (K := K) MSt rfl hr (fun σ => passAt tk σ) (pa_cons (pv 0) (pa_cons pe_int (pa_cons pe_int pa_nil))))))))) (fun a oe cls d pn hz hf => (pss_one (ps_set (i := 2) sc_law_name_told.nd rfl (Or.inl rfl) (pe_tup (pa_cons (pe_xf R.EN.ex.xf (R.EN.na _ (by simp)) hz hf (pv 3)) pa_nil))))))
      (pss_one (ps_ret (pv 2))))), ?_⟩
    refine normG (i := 2) (v := .non) (σ := [some (.str x), some (.int i), none, none]) (σ' := [some (.str x), some (.int i), some .non, none]) rfl ?_
    dsimp only
    refine mid (fun σ' H' => ∃ v, σ' = [some (.str x), some (.int i), some v, none] ∧ Q v H') (fun key => ?_) ?_
    · refine ⟨_, rfl, rfl, _, rfl, ite2 (fun _ => ?_) (fun _ => ?_)⟩
      · refine ⟨_, rfl, x, _, 1, 0, 0, 0, 1, rfl, hx, .inr ⟨.inr ⟨rfl, rfl, rfl⟩, rfl⟩, ?_⟩
        rw [ckRd_n]
        refine ckA_out (fun hn d H2 s2 hd => ?_) (fun hn p3 H3 s3 ⟨dr, qr, hr1, _⟩ => ?_)
        · exact ⟨true, R.xNN, fun _ a ha => ⟨_, rfl, rfl, rfl, d, _, _, rfl, hd, look_x, sz1, fun t ht => key _ _ ⟨_, rfl, k2 hn _ _ (Same.new _ s2 ht) upd_same⟩⟩, fun q => Bool.noConfusion q⟩
        · exact ⟨p3, _, _, _, _, rfl, hr1, T.clR, T.nRA, rdf_a _ _ _, key _ _ ⟨_, rfl, k1 hn _ s3⟩⟩
      · refine ⟨_, rfl, x, _, 0, 0, 0, 0, rfl, hx, .inr ⟨rfl, rfl, rfl⟩, ?_⟩
        rw [ckSt_n]
        refine ckA_out (fun hn d H2 s2 hd => ?_) (fun hn p3 H3 s3 ⟨dr, qr, r5, g5, hr1, _⟩ => ?_)
        · exact ⟨true, R.xNN, fun _ a ha => ⟨_, rfl, rfl, rfl, d, _, _, rfl, hd, look_x, sz1, fun t ht => key _ _ ⟨_, rfl, k2 hn _ _ (Same.new _ s2 ht) upd_same⟩⟩, fun q => Bool.noConfusion q⟩
        · exact ⟨p3, _, _, _, _, rfl, hr1, T.clM, T.nMA, stf_a _ _ _ _ _, key _ _ ⟨_, rfl, k1 hn _ s3⟩⟩
    rintro σ H3 ⟨v, rfl, q⟩
    exact ⟨_, rfl, q⟩
end
end K23

set_option maxHeartbeats 4000000
namespace K23
open PySem PySem.Spec PyProof.Rows L2 Z
def dueE (j : Nat) : Er := match j with
  | 0 => .many "reads" 4 3
  | 1 => .many "conditions" 4 3
  | 2 => .name "A"
  | 3 => .num "n" 13
  | 4 => .num "i" 13
  | 5 => .many "statements" 17 16
  | 6 => .num "step" 17
  | 7 => .num "n" 4
  | 8 => .num "step" 2
  | 9 => .many "loops" 7 6
  | 10 => .num "n" 4
  | 11 => .name "A"
  | 12 => .num "factor" 0
  | 13 => .num "i" 13
  | _ => .num "divisor" 4
theorem some_or {e : Er} {o : Option Er} : (some e).or o = some e := rfl
theorem isName_A : isName "A" = false := by decide +kernel
theorem ck_bad {x : Str} (h : isName x = false) : ckA x = some (.name x) := if_neg (by rw [h]; decide)
theorem ckN_out {x : Str} {v lo hi : Int} (h : ¬ (lo ≤ v ∧ v ≤ hi)) : ckN x v lo hi = some (.num x v) := if_neg h
theorem ckM_out {x : Str} {v l : Int} (h : ¬ v ≤ l) : ckM x v l = some (.many x v l) := if_neg h
def spReadMade (K : PySem.W.Frag) : Sp := fun vs H _ E => ∃ (j : Nat) (p q : Addr), vs = [.int j, .ref p, .ref q] ∧ 10 ≤ j ∧ j < 15 ∧ StrAt K H p 1 0 0 ∧ StrAt K H q 0 1 0 ∧ Rz K H E (dueE j)
theorem cr10 : ckLp 0 2 (0, 1, 0, 2) (0, 4, 0, 1) = some (.num "n" 4) := by
  unfold ckLp ckLoop ckR
  rw [ckM_in (v := 0) (by decide), ckN_in (x := "step") (v := 2) (by decide), ckN_in (x := "i") (v := (0, 1, 0, 2).1) (by decide), ckN_in (x := "n") (v := (0, 1, 0, 2).2.1) (by decide), ckN_in (x := "one") (v := (0, 1, 0, 2).2.2.1) (by decide), ckN_in (x := "divisor") (v := (0, 1, 0, 2).2.2.2) (by decide),
    ckN_out (x := "n") (v := (0, 4, 0, 1).2.1) (by decide)]
  rfl
theorem cr11 : ckRead "A" 0 13 0 0 1 = some (.name "A") := by
  unfold ckRead
  rw [ck_bad isName_A]
  rfl
theorem cr12 : ckRead "a" 0 13 0 0 4 = some (.num "factor" 0) := by
  unfold ckRead
  rw [ck_a isName_a, if_pos rfl]
  rfl
theorem cr13 : ckRead "a" 1 13 1 0 4 = some (.num "i" 13) := by
  unfold ckRead ckP ckS
  rw [ck_a isName_a, ckN_in (v := 1) (by decide), ckN_out (v := 13) (by decide), if_neg (by decide)]
  rfl
theorem cr14 : ckRead "a" 1 1 0 1 4 = some (.num "divisor" 4) := by
  unfold ckRead ckP ckS
  rw [ck_a isName_a, ckN_in (x := "factor") (v := 1) (by decide), ckN_in (x := "i") (v := 1) (by decide), ckN_in (v := 0) (by decide), ckN_in (x := "one") (v := 1) (by decide), ckN_out (v := 4) (by decide), if_neg (by decide)]
  rfl
section
variable {P : Program} {w : World} {K : PySem.W.Frag} {mg : Str → Option Value} {base : Heap}
theorem sz0 : 0 ≤ sizeLine := Nat.zero_le _
theorem len_A : ("A" : Str).length ≤ 1000 := by decide +kernel
theorem sc_law_read_made : FnScope ["_law_way", "_law_i", "_law_n"] ["_law_way", "_law_i", "_law_n"] (defScope s_law_read_made) := ⟨rfl, rfl, rfl, by decide +kernel, rfl, by decide +kernel, by decide +kernel⟩
theorem ok_readMade {f : Addr} {fd : FuncData} (F : FnP K "_law_read_made" s_law_read_made f fd) (T : LwTx K mg) (MRd : MkRd P w K mg base) (MLp : MkLp P w K mg base) (O : OpX P w K mg base) : FnOk P w K mg base (L2.CX P w) 9 f fd ["_law_way", "_law_i", "_law_n"] (spReadMade K) := by
  refine F.ok sc_law_read_made (fun vs H Q E h => ?_) (fun cdv A outer s H vs Q E hr h => ?_)
  · obtain ⟨j, p, q, rfl, _⟩ := h
    rfl
  · obtain ⟨j, p, q, rfl, j0, j1, hp, hq, kk⟩ := h
    refine ⟨_, (pss_cons (ps_if (pt_cmpR op_eq (pv 0) pe_int (nomark _)) (pss_one (ps_ret (pe_LpK (K := K) MLp rfl hr (fun σ => passAt (takes_of rfl rfl rfl rfl) σ) (pa_cons (pe_fdS O.fd O.if_ hr (fun σ => passAt (takes_of rfl rfl rfl rfl) σ) (pv 2) pe_int) (pa_cons (pe_op (op_reflMul O.sm O.sr O.im hr) pe_int (pv 2)) (pa_cons (pe_lst pa_nil) pa_nil))) (pk_cons pe_int pk_nil)))) pss_nil)
      (pss_cons (ps_if (pt_cmpR op_eq (pv 0) pe_int (nomark _)) (pss_one (ps_ret (pe_RdK (K := K) MRd rfl hr (fun σ => passAt (takes_of rfl rfl rfl rfl) σ) (pa_cons pe_str (pa_cons (pe_op (op_ownI O.sm O.im hr) (pv 1) pe_int) pa_nil)) (pk_cons pe_int pk_nil)))) pss_nil)
      (pss_cons (ps_if (pt_cmpR op_eq (pv 0) pe_int (nomark _)) (pss_one (ps_ret (pe_RdK (K := K) MRd rfl hr (fun σ => passAt (takes_of rfl rfl rfl rfl) σ) (pa_cons pe_str (pa_cons (pe_fdS O.fd O.if_ hr (fun σ => passAt (takes_of rfl rfl rfl rfl) σ) (pe_op (op_reflMul O.sm O.sr O.im hr) pe_int (pv 1)) pe_int) pa_nil)) (pk_cons pe_int pk_nil)))) pss_nil)
      (pss_one (ps_ret (pe_RdP (K := K) MRd rfl hr (fun σ => passAt (takes_of rfl rfl rfl rfl) σ) (pa_cons pe_str (pa_cons (pe_ifExp (pt_cmpR op_eq (pv 0) pe_int (nomark _)) (pe_fdS O.fd O.if_ hr (fun σ => passAt (takes_of rfl rfl rfl rfl) σ) (pe_op (op_own O.sa O.ia hr) (pe_op (op_reflMul O.sm O.sr O.im hr) pe_int (pv 1)) (pv 2)) pe_int) (pe_fdS O.fd O.if_ hr (fun σ => passAt (takes_of rfl rfl rfl rfl) σ) (pe_op (op_ownI O.sa O.ia hr) (pv 1) pe_int) pe_int)) pa_nil)))))))), ?_⟩
    refine ⟨_, rfl, rfl, _, rfl, ite2 (fun e => ?_) (fun n10 => ?_)⟩
    · obtain rfl : j = 10 := by
        have := of_decide_eq_true e
        injection this with this
        omega
      refine ⟨_, rfl, r_fd hq (by decide) (gg2 2) fun p4 H4 s4 h4 => ⟨_, rfl, r_imul (hq.same s4) sm_n fun p5 H5 s5 h5 => ⟨sz0, fun l hl => ?_⟩⟩⟩
      have s6 := Same.new (.lst []) s5 hl
      have s7 := Same.new (.lst []) (Same.refl H5) hl
      refine ⟨rfl, rfl, _, _, l, [], (0, 1, 0, 2), (0, 4, 0, 1), 2, false, rfl, .inl ⟨p4, rfl, h4.same s6⟩, .inr ⟨.inl ⟨p5, rfl, h5.same s7⟩, rfl⟩, .inl (SqL.of upd_same), Out.bad cr10 (kk.same (s4.trans s6))⟩
    replace n10 : j ≠ 10 := fun z => n10 (by rw [z]; rfl)
    refine ⟨_, rfl, rfl, _, rfl, ite2 (fun e => ?_) (fun n11 => ?_)⟩
    · obtain rfl : j = 11 := by
        have := of_decide_eq_true e
        injection this with this
        omega
      exact ⟨_, rfl, r_mulI hp sm_i fun p4 H4 s4 h4 => ⟨rfl, rfl, "A", _, 0, 13, 0, 0, 1, rfl, len_A, .inr ⟨.inl ⟨p4, rfl, h4⟩, rfl⟩, Out.bad cr11 (kk.same s4)⟩⟩
    replace n11 : j ≠ 11 := fun z => n11 (by rw [z]; rfl)
    refine ⟨_, rfl, rfl, _, rfl, ite2 (fun e => ?_) (fun n12 => ?_)⟩
    · obtain rfl : j = 12 := by
        have := of_decide_eq_true e
        injection this with this
        omega
      exact ⟨_, rfl, r_imul hp sm_i fun p4 H4 s4 h4 => r_fd h4 (by decide) (by decide +kernel) fun p5 H5 s5 h5 => ⟨rfl, rfl, "a", _, 0, 13, 0, 0, 4, rfl, len_a, .inl ⟨p5, rfl, h5⟩, Out.bad cr12 (kk.same (s4.trans s5))⟩⟩
    replace n12 : j ≠ 12 := fun z => n12 (by rw [z]; rfl)
    refine ⟨_, rfl, rfl, _, rfl, ite2 (fun e => ?_) (fun n13 => ?_)⟩
    · obtain rfl : j = 13 := by
        have := of_decide_eq_true e
        injection this with this
        omega
      exact ⟨_, rfl, r_imul hp sm_i fun p4 H4 s4 h4 => ⟨_, rfl, r_add h4 (hq.same s4) fun p6 H6 s6 h6 => r_fd h6 (by decide) (by decide +kernel) fun p5 H5 s5 h5 => ⟨"a", _, 1, 13, 1, 0, 4, rfl, len_a, .inl ⟨p5, rfl, h5⟩, Out.bad cr13 (kk.same (s4.trans (s6.trans s5)))⟩⟩⟩
    replace n13 : j ≠ 13 := fun z => n13 (by rw [z]; rfl)
    obtain rfl : j = 14 := by omega
    exact ⟨_, rfl, r_addI hp fun p6 H6 s6 h6 => r_fd h6 (by decide) (by decide +kernel) fun p5 H5 s5 h5 => ⟨"a", _, 1, 1, 0, 1, 4, rfl, len_a, .inl ⟨p5, rfl, h5⟩, Out.bad cr14 (kk.same (s6.trans s5))⟩⟩
end
end K23

set_option maxHeartbeats 4000000
namespace K23
open PySem PySem.Spec PyProof.Rows L2 Z
def dueV : Er → List V
  | .num w v => [.str w, .int v]
  | .many w m l => [.str w, .int m, .int l]
  | .name x => [.str x]
section
variable {K : PySem.W.Frag} {mg : Str → Option Value} {W : WX} {D : Ends} {i1 i2 i3 : Nat} {t1 t2 t3 : Addr → Value → Option Addr → TS} {d : Option Addr} {σ : L2.St} {H : Hp}
theorem wcl_many (R : ErTx K mg) (h : ∀ a, H a = none → t1 a (.ref (He.ga K "TooMany")) d (bare i1 D) (σ.set i1 (some (.ref a))) H) :
    wClauses K W D [(.ref (He.ga K "TooMany"), i1, t1), (.ref (He.ga K "BadName"), i2, t2), (.ref (He.ga K "BadNumber"), i3, t3)] (.ref (He.ga K "TooMany")) d σ H :=
  ⟨true, R.xTT, fun _ => h, fun q => Bool.noConfusion q⟩
theorem wcl_name (R : ErTx K mg) (h : ∀ a, H a = none → t2 a (.ref (He.ga K "BadName")) d (bare i2 D) (σ.set i2 (some (.ref a))) H) :
    wClauses K W D [(.ref (He.ga K "TooMany"), i1, t1), (.ref (He.ga K "BadName"), i2, t2), (.ref (He.ga K "BadNumber"), i3, t3)] (.ref (He.ga K "BadName")) d σ H :=
  ⟨false, R.xNT, fun q => Bool.noConfusion q, fun _ => ⟨true, R.xNN, fun _ => h, fun q => Bool.noConfusion q⟩⟩
theorem wcl_num (R : ErTx K mg) (h : ∀ a, H a = none → t3 a (.ref (CB K)) d (bare i3 D) (σ.set i3 (some (.ref a))) H) :
    wClauses K W D [(.ref (He.ga K "TooMany"), i1, t1), (.ref (He.ga K "BadName"), i2, t2), (.ref (He.ga K "BadNumber"), i3, t3)] (.ref (CB K)) d σ H :=
  ⟨false, R.xBT, fun q => Bool.noConfusion q, fun _ => ⟨false, R.xBN, fun q => Bool.noConfusion q, fun _ => ⟨true, R.xBB, fun _ => h, fun q => Bool.noConfusion q⟩⟩⟩
end
theorem same_upd {H H' : Hp} {D : Addr} {o : HO} (s : Same H H') (n : H D = none) : Same H (upd H' D o) := fun b u e => by
  rw [upd_ne (fun z => by rw [z, n] at e; cases e)]
  exact s _ _ e
theorem StrAt.updL {K : PySem.W.Frag} {H : Hp} {p D : Addr} {a b c : Int} {o : HO} {xs : List V} (h : StrAt K H p a b c) (hD : H D = some (.lst xs)) : StrAt K (upd H D o) p a b c := by
  obtain ⟨dx, h⟩ := h
  exact ⟨dx, by rw [upd_ne (fun z => by rw [z, hD] at h; cases h)]; exact h⟩
theorem AtlAt.updL {K : PySem.W.Frag} {H : Hp} {p D : Addr} {a b c : Int} {o : HO} {xs : List V} (h : AtlAt K H p a b c) (hD : H D = some (.lst xs)) : AtlAt K (upd H D o) p a b c := by
  obtain ⟨dx, q, h, g⟩ := h
  exact ⟨dx, q, by rw [upd_ne (fun z => by rw [z, hD] at h; cases h)]; exact h, StrAt.updL g hD⟩
theorem len_rep {α : Type} (n : Nat) (x : α) : (List.replicate n [x]).flatten = List.replicate n x := by
  induction n with
  | zero => rfl
  | succ n ih =>
    rw [List.replicate_succ, List.flatten_cons, ih]
    rfl
theorem ckF0 {cc : List (Int × Int × Int)} : ckStm 4 4 "A" cc 1 0 0 1000 = some (.many "reads" 4 3) := by
  unfold ckStm
  rw [ckM_out (v := 4) (by decide)]
  rfl
theorem ckF1 {cc : List (Int × Int × Int)} : ckStm 0 4 "A" cc 1 0 0 1000 = some (.many "conditions" 4 3) := by
  unfold ckStm
  rw [ckM_in (v := 0) (by decide), ckM_out (v := 4) (by decide)]
  rfl
theorem ckF2 : ckStm 0 0 "A" [] 13 0 0 1000 = some (.name "A") := by
  unfold ckStm
  rw [ckM_in (v := 0) (by decide), ckM_in (v := 0) (by decide), ck_bad isName_A]
  rfl
theorem ckF3 : ckStm 0 2 "a" [(1, 0, 0), (1, 13, 0)] 13 0 0 1000 = some (.num "n" 13) := by
  unfold ckStm
  rw [ckM_in (v := 0) (by decide), ckM_in (v := 2) (by decide), ck_a isName_a]
  simp only [ckCs, ckS]
  rw [ckN_in (v := 1) (by decide), ckN_in (v := 0) (by decide), ckN_in (v := 0) (by decide), ckN_out (x := "n") (v := 13) (by decide)]
  rfl
theorem ckF4 : ckStm 0 0 "a" [] 13 14 0 1000 = some (.num "i" 13) := by
  unfold ckStm
  rw [ckM_in (v := 0) (by decide), ckM_in (v := 0) (by decide), ck_a isName_a]
  simp only [ckCs, ckS]
  rw [ckN_out (x := "i") (v := 13) (by decide)]
  rfl
theorem ckF5 {t u : P4} : ckLp 17 0 t u = some (.many "statements" 17 16) := by
  unfold ckLp ckLoop
  rw [ckM_out (v := 17) (by decide)]
  rfl
theorem ckF6 {t u : P4} : ckLp 16 17 t u = some (.num "step" 17) := by
  unfold ckLp ckLoop
  rw [ckM_in (v := 16) (by decide), ckN_out (v := 17) (by decide)]
  rfl
theorem ckF7 {u : P4} : ckLp 0 2 (0, 4, 0, 1) u = some (.num "n" 4) := by
  unfold ckLp ckLoop ckR
  rw [ckM_in (v := 0) (by decide), ckN_in (x := "step") (v := 2) (by decide), ckN_in (x := "i") (v := (0, 4, 0, 1).1) (by decide), ckN_out (x := "n") (v := (0, 4, 0, 1).2.1) (by decide)]
  rfl
theorem ckF8 : ckLp 0 2 (0, 1, 0, 2) (0, 1, 1, 3) = some (.num "step" 2) := by
  show (ckM "statements" 0 16).or ((ckN "step" 2 1 16).or ((ckR 0 1 0 2).or ((ckR 0 1 1 3).or (if (1 : Int) < 2 ∧ (1 : Int) < 2 then some (Er.num "step" 2) else none)))) = _
  unfold ckR
  rw [ckM_in (v := 0) (by decide), ckN_in (x := "step") (v := 2) (by decide), ckN_in (v := 0) (by decide), ckN_in (v := 1) (by decide), ckN_in (v := 0) (by decide), ckN_in (v := 2) (by decide), ckN_in (v := 1) (by decide), ckN_in (v := 3) (by decide), if_pos (by decide)]
  rfl
theorem ckLp0 : ckLp 0 1 (0, 0, 0, 1) (0, 1, 0, 1) = none := by
  show (ckM "statements" 0 16).or ((ckN "step" 1 1 16).or ((ckR 0 0 0 1).or ((ckR 0 1 0 1).or (if (1 : Int) < 1 ∧ (1 : Int) < 1 then some (Er.num "step" 1) else none)))) = _
  rw [ckRn, ckR0, ckM_in (v := 0) (by decide), ckN_in (v := 1) (by decide), if_neg (by decide)]
  rfl
theorem stm1 : ckStm 0 0 "a" [] 1 0 0 0 = none := by
  rw [ckSt0]
  unfold ckS
  rw [ckN_in (v := 1) (by decide), ckN_in (v := 0) (by decide), ckN_in (v := 0) (by decide), ckN_in (v := 0) (by decide)]
  rfl
theorem rd_ok : ckRead "a" 1 1 0 0 1 = none := by
  unfold ckRead ckP ckS
  rw [ck_a isName_a, ckN_in (v := 1) (by decide), ckN_in (v := 1) (by decide), ckN_in (v := 0) (by decide), ckN_in (v := 0) (by decide), ckN_in (v := 1) (by decide), if_neg (by decide)]
  rfl
def spFirst : Sp := fun vs H Q _ => ∃ j : Nat, vs = [.int j] ∧ j < 15 ∧ ∀ t H', Same H H' → H' t = some (.tup (dueV (dueE j))) → Q (.ref t) H'
section
variable {P : Program} {w : World} {K : PySem.W.Frag} {mg : Str → Option Value} {base : Heap}
theorem sc_law_first_told : FnScope ["_law_way", "_law_i", "_law_n", "_law_told", "_law_four", "_law_many", "_law_k", "e"] ["_law_way"] (defScope s_law_first_told) := ⟨rfl, rfl, rfl, by decide +kernel, rfl, by decide +kernel, by decide +kernel⟩
theorem ok_first {f : Addr} {fd : FuncData} (F : FnP K "_law_first_told" s_law_first_told f fd) (T : LwTx K mg) (R : ErTx K mg) (M : MkS P w K mg base) (MA : MkA P w K mg base) (MRd : MkRd P w K mg base) (MSt : MkSt P w K mg base) (MLp : MkLp P w K mg base) (MPr : MkPr P w K mg base) (O : OpX P w K mg base)
    (dReadMade : Dx P w K mg base 9 "_law_read_made" ["_law_way", "_law_i", "_law_n"] (spReadMade K)) : FnOk P w K mg base CX0 10 f fd ["_law_way"] spFirst := by
  refine F.ok sc_law_first_told (fun vs H Q E h => ?_) (fun cdv A outer s H vs Q E hr h => ?_)
  · obtain ⟨j, rfl, _⟩ := h
    rfl
  · obtain ⟨j, rfl, hj, k⟩ := h
    refine ⟨_, PSs.nox (pss_cons (ps_asg (pe_tup (pa_cons (pe_S T.toStTx M hr (pa_cons pe_int (pa_cons pe_int (pa_cons pe_int pa_nil)))) (pa_cons (pe_S T.toStTx M hr (pa_cons pe_int (pa_cons pe_int (pa_cons pe_int pa_nil)))) (pa_cons pe_non pa_nil)))) (pg_tup (by rfl) (pgs_cons (pg_name (i := 1) sc_law_first_told.nd rfl (.inr rfl)) (pgs_cons (pg_name (i := 2) sc_law_first_told.nd rfl (.inl rfl)) (pgs_cons (pg_name (i := 3) sc_law_first_told.nd rfl (.inl rfl)) pgs_nil)))))
      (pss_cons (ps_par (i := 4) (j := 5) (by rfl) sc_law_first_told.nd rfl rfl (by decide) rfl rfl (pa_cons (pe_lc (own := [("_law_k", 6)]) (g := gName 6) (tt := tYes) rfl sc_law_first_told.nd (pi_range1 (by rfl) T.range (pa_cons pe_int pa_nil)) (blkOk_by (N := ["_law_way", "_law_i", "_law_n", "_law_told", "_law_four", "_law_many", "_law_k", "e"]) (sc := defScope s_law_first_told) (by decide +kernel)) (fun _ _ _ _ _ => (pg_name (i := 6) sc_law_first_told.nd rfl (.inl rfl))) (fun _ _ _ _ _ => pts_nil) (fun _ _ _ _ _ => (pe_RdP (K := K) MRd rfl hr at_E0 (pa_cons pe_str (pa_cons (pv 1) pa_nil))))) (pa_cons (pe_lc (own := [("_law_k", 6)]) (g := gName 6) (tt := tYes) rfl sc_law_first_told.nd (pi_range1 (by rfl) T.range (pa_cons pe_int pa_nil)) (blkOk_by (N := ["_law_way", "_law_i", "_law_n", "_law_told", "_law_four", "_law_many", "_law_k", "e"]) (sc := defScope s_law_first_told) (by decide +kernel)) (fun _ _ _ _ _ => (pg_name (i := 6) sc_law_first_told.nd rfl (.inl rfl))) (fun _ _ _ _ _ => pts_nil) (fun _ _ _ _ _ => (pe_AK (K := K) rfl T.toAtTx MA hr (pa_cons (pv 1) pa_nil)))) pa_nil)) (by rfl))
      (pss_cons (ps_try_asMany rfl rfl sc_law_first_told.nd takes0 (fun W pn xe tk _ => (pss_one (ps_if (pt_cmpR op_eq (pv 0) pe_int (nomark _)) (pss_one (ps_expr (pe_StK2 (K := K) MSt rfl hr (fun σ => passAt tk σ) (pa_cons pe_str (pa_cons (pv 1) (pa_cons pe_int pa_nil))) (pk_cons (pv 4) (pk_cons (pv 5) pk_nil))))) (pss_one (ps_if (pt_cmpR op_eq (pv 0) pe_int (nomark _)) (pss_one (ps_expr (pe_StK1 (K := K) MSt rfl hr (fun σ => passAt tk σ) (pa_cons pe_str (pa_cons (pv 1) (pa_cons pe_int pa_nil))) (pk_cons (pv 5) pk_nil)))) (pss_one (ps_if (pt_cmpR op_eq (pv 0) pe_int (nomark _)) (pss_one (ps_expr (pe_StP (K := K) MSt rfl hr (fun σ => passAt tk σ) (pa_cons pe_str (pa_cons (pe_op (op_ownI O.sm O.im hr) (pv 1) pe_int) (pa_cons pe_int pa_nil)))))) (pss_one (ps_if (pt_cmpR op_eq (pv 0) pe_int (nomark _)) (pss_one (ps_expr (pe_StK1 (K := K) MSt rfl hr (fun σ => passAt tk σ) (pa_cons pe_str (pa_cons (pe_op (op_ownI O.sm O.im hr) (pv 1) pe_int) (pa_cons pe_int pa_nil))) (pk_cons (pe_lst (pa_cons (pe_AK (K := K) rfl T.toAtTx MA hr (pa_cons (pv 1) pa_nil)) (pa_cons (pe_AK (K := K) rfl T.toAtTx MA hr (pa_cons (pe_op (op_own O.sa O.ia hr) (pv 1) (pe_op (op_reflMul O.sm O.sr O.im hr) pe_int (pv 2))) pa_nil)) pa_nil))) pk_nil)))) (pss_one (ps_if (pt_cmpR op_eq (pv 0) pe_int (nomark _)) (pss_one (ps_expr (pe_StP (K := K) MSt rfl hr (fun σ => passAt tk σ) (pa_cons pe_str (pa_cons (pe_op (op_own O.sa O.ia hr) (pe_op (op_ownI O.sm O.im hr) (pv 1) pe_int) (pe_op (op_ownI O.sm O.im hr) (pv 2) pe_int)) (pa_cons pe_int pa_nil)))))) (pss_one (ps_if (pt_cmpR op_eq (pv 0) pe_int (nomark _)) (pss_one (ps_expr (pe_LpK (K := K) MLp rfl hr (fun σ => passAt tk σ) (pa_cons (pv 1) (pa_cons (pe_fdT tk rfl O.fd O.if_ hr (pv 2) pe_int) (pa_cons (pe_op op_rep (pe_lst (pa_cons (pe_StP (K := K) MSt rfl hr (fun σ => passAt tk σ) (pa_cons pe_str (pa_cons (pv 1) (pa_cons pe_int pa_nil)))) pa_nil)) pe_int) pa_nil))) (pk_cons pe_int pk_nil)))) (pss_one (ps_if (pt_cmpR op_eq (pv 0) pe_int (nomark _)) (pss_one (ps_expr (pe_LpK (K := K) MLp rfl hr (fun σ => passAt tk σ) (pa_cons (pv 1) (pa_cons (pe_fdT tk rfl O.fd O.if_ hr (pv 2) pe_int) (pa_cons (pe_op op_rep (pe_lst (pa_cons (pe_StP (K := K) MSt rfl hr (fun σ => passAt tk σ) (pa_cons pe_str (pa_cons (pv 1) (pa_cons pe_int pa_nil)))) pa_nil)) pe_int) pa_nil))) (pk_cons pe_int pk_nil)))) (pss_one (ps_if (pt_cmpR op_eq (pv 0) pe_int (nomark _)) (pss_one (ps_expr (pe_LpK (K := K) MLp rfl hr (fun σ => passAt tk σ) (pa_cons (pe_op (op_reflMul O.sm O.sr O.im hr) pe_int (pv 2)) (pa_cons (pe_fdT tk rfl O.fd O.if_ hr (pv 2) pe_int) (pa_cons (pe_lst pa_nil) pa_nil))) (pk_cons pe_int pk_nil)))) (pss_one (ps_if (pt_cmpR op_eq (pv 0) pe_int (nomark _)) (pss_one (ps_expr (pe_LpK (K := K) MLp rfl hr (fun σ => passAt tk σ) (pa_cons (pe_fdT tk rfl O.fd O.if_ hr (pv 2) pe_int) (pa_cons (pe_fdT tk rfl O.fd O.if_ hr (pe_op (op_ownI O.sa O.ia hr) (pv 2) pe_int) pe_int) (pa_cons (pe_lst pa_nil) pa_nil))) (pk_cons pe_int pk_nil)))) (pss_one (ps_if (pt_cmpR op_gt (pv 0) pe_int (nomark _)) (pss_one (ps_expr (pe_dx (K := K) dReadMade rfl hr (fun σ => passAt tk σ) (pa_cons (pv 0) (pa_cons (pv 1) (pa_cons (pv 2) pa_nil)))))) (pss_one (ps_expr (pe_PrP (K := K) MPr rfl hr (fun σ => passAt tk σ) (pa_cons (pe_op op_rep (pe_lst (pa_cons (pe_LpP (K := K) MLp rfl hr (fun σ => passAt tk σ) (pa_cons pe_int (pa_cons (pv 2) (pa_cons (pe_lst pa_nil) pa_nil)))) pa_nil)) pe_int) pa_nil))))))))))))))))))))))))) (Clauses.cons (i := 7) rfl rfl ⟨rfl, by decide, .inl R.ET.gC⟩ (fun a oe cls d pn hz hf => (pss_one (ps_set (i := 3) sc_law_first_told.nd rfl (Or.inl rfl) (pe_tup (pa_cons (pe_xf R.ET.ex.xf (R.ET.na _ (by simp)) hz hf (pv 7)) (pa_cons (pe_xf R.ET.ex.xf (R.ET.na _ (by simp)) hz hf (pv 7)) (pa_cons (pe_xf R.ET.ex.xf (R.ET.na _ (by simp)) hz hf (pv 7)) pa_nil))))))) (Clauses.cons (i := 7) rfl rfl ⟨rfl, by decide, .inl R.EN.gC⟩ (fun a oe cls d pn hz hf => (pss_one (ps_set (i := 3) sc_law_first_told.nd rfl (Or.inl rfl) (pe_tup (pa_cons (pe_xf R.EN.ex.xf (R.EN.na _ (by simp)) hz hf (pv 7)) pa_nil))))) (Clauses.cons (i := 7) rfl rfl ⟨rfl, by decide, .inl R.EB.gC⟩ (fun a oe cls d pn hz hf => (pss_one (ps_set (i := 3) sc_law_first_told.nd rfl (Or.inl rfl) (pe_tup (pa_cons (pe_xf R.EB.ex.xf (R.EB.na _ (by simp)) hz hf (pv 7)) (pa_cons (pe_xf R.EB.ex.xf (R.EB.na _ (by simp)) hz hf (pv 7)) pa_nil)))))) Clauses.nil))))
      (pss_one (ps_ret (pv 3)))))), ?_⟩
    refine ⟨_, _, _, rfl, fun p1 H1 s1 _ h1 => ⟨_, _, _, rfl, fun p2 H0 s0 _ h2 => ⟨sz3, fun t0 ht0 => ⟨t0, _, rfl, SqT.of upd_same, rfl, _, _, rfl, _, _, rfl, _, _, rfl, rfl, ?_⟩⟩⟩⟩
    obtain ⟨H2, e2⟩ : ∃ L, L = upd H0 t0 (.tup [.ref p1, .ref p2, .non]) := ⟨_, rfl⟩
    rw [← e2]
    have s02 : Same H0 H2 := by rw [e2]; exact Same.new _ (Same.refl _) ht0
    have s2 := s0.trans s02
    have h2 := h2.same s02
    have h1 := h1.same s2
    refine norm (σ' := [some (.int j), some (.ref p1), some (.ref p2), some .non, none, none, none, none]) rfl ?_
    refine ⟨4, rfl, by omega, by omega, ?_⟩
    rw [show Int.toNat 4 = 4 from rfl]
    intro D1 hD1
    refine lc_range (lo := 0) (n := 4) (te := fun σ H Q => tCons (tC (V.str "a")) (tCons (tVar 1) tNil) σ H fun vs H1 => rRd K (vs ++ [.int 1]) H1 Q E0) (fun i Hc => ∃ acc : List V, acc.length = i ∧ Hc D1 = some (.lst acc) ∧ Same H2 Hc) ⟨[], rfl, upd_same, Same.new _ (Same.refl _) hD1⟩ ?_ ?_
    · rintro i Hc hi ⟨acc, hl, hD, sc⟩
      refine ⟨rfl, yes_of ?_⟩
      refine ⟨_, rfl, "a", _, 1, 1, 0, 0, 1, rfl, len_a, .inr ⟨.inl ⟨p1, rfl, h1.same sc⟩, rfl⟩, Out.ok rd_ok fun p3 H3 s3 _ => ⟨acc, s3 _ _ hD, ?_, acc ++ [.ref p3], ?_, upd_same, same_upd (sc.trans s3) hD1⟩⟩
      · have := sz10
        omega
      · rw [List.length_append, hl]
        rfl
    rintro H3 ⟨a4, l4, hD1', s3⟩
    have h1 := h1.same s3
    have h2 := h2.same s3
    refine ⟨4, rfl, by omega, by omega, ?_⟩
    rw [show Int.toNat 4 = 4 from rfl]
    intro D2 hD2
    have sD := Same.new (.lst []) (Same.refl H3) hD2
    refine lc_range (lo := 0) (n := 4) (te := fun σ H Q => tCons (tVar 1) tNil σ H fun vs H1 => ∃ v a b c, vs = [v] ∧ SumV K H1 v a b c ∧ g2 a b < 1073741824 ∧ NewA K H1 (a.fdiv (g2 a b)) (b.fdiv (g2 a b)) (lf3 a b c) Q) (fun i Hc => ∃ as : List Addr, as.length = i ∧ Hc D2 = some (.lst (as.map V.ref)) ∧ Same H3 Hc ∧ ∀ a ∈ as, AtlAt K Hc a 1 0 0) ⟨[], rfl, upd_same, sD, fun _ z => by cases z⟩ ?_ ?_
    · rintro i Hc hi ⟨as, hl, hD, sc, hA⟩
      refine ⟨rfl, yes_of ?_⟩
      refine ⟨_, rfl, r_atl (.inl ⟨p1, rfl, h1.same sc⟩) (g2_1 0) fun p3 H4 s4 h4 => ⟨as.map V.ref, s4 _ _ hD, ?_, as ++ [p3], ?_, ?_, same_upd (sc.trans s4) hD2, fun a ha => ?_⟩⟩
      · have := sz10
        rw [List.length_map]
        omega
      · rw [List.length_append, hl]
        rfl
      · rw [upd_same, List.map_append]
        rfl
      · rcases List.mem_append.mp ha with z | z
        · exact AtlAt.updL ((hA a z).same s4) (s4 _ _ hD)
        · rw [List.mem_singleton.mp z]
          exact AtlAt.updL h4 (s4 _ _ hD)
    rintro H4 ⟨as, las, hD2', s4, hA⟩
    have h1 := h1.same s4
    have h2 := h2.same s4
    have hD1' := s4 _ _ hD1'
    have s04 : Same H H4 := s1.trans (s2.trans (s3.trans s4))
    refine ⟨_, _, rfl, ?_⟩
    refine norm (σ' := [some (.int j), some (.ref p1), some (.ref p2), some .non, some (.ref D1), some (.ref D2), none, none]) rfl ?_
    dsimp only
    have sq1 : SqA K H4 D1 a4 := .inl (SqL.of hD1')
    have sq2 : SqA K H4 D2 (as.map V.ref) := .inl (SqL.of hD2')
    have cn : Cnds K H4 (as.map V.ref) (List.replicate 4 (1, 0, 0)) := by
      refine ⟨by rw [List.length_map, las, List.length_replicate], fun i v t g1 g2 => ?_⟩
      rw [List.getElem?_map] at g1
      obtain ⟨a, ha, rfl⟩ := Option.map_eq_some_iff.mp g1
      have := List.eq_of_mem_replicate (List.mem_of_getElem? g2)
      subst this
      exact atl_cnd T.toPrTx (hA a (List.mem_of_getElem? ha))
    have l2 : (as.map V.ref).length = 4 := by rw [List.length_map, las]
    refine mid (fun σ' H' => ∃ t, σ' = [some (.int j), some (.ref p1), some (.ref p2), some (.ref t), some (.ref D1), some (.ref D2), none, none] ∧ Same H4 H' ∧ H' t = some (.tup (dueV (dueE j)))) (fun key => ?_) ?_
    · refine ⟨_, rfl, rfl, _, rfl, ite2 (fun e => ?_) (fun n0 => ?_)⟩
      · obtain rfl : j = 0 := by
          have := of_decide_eq_true e
          injection this with this
          omega
        refine ⟨_, rfl, _, rfl, _, rfl, rfl, rfl, "A", _, 1000, D1, D2, a4, as.map V.ref, _, 1, 0, 0, rfl, len_A, .inl ⟨p1, rfl, h1⟩, sq1, sq2, cn, ?_⟩
        rw [l4, l2]
        exact Out.bad ckF0 (fun d H9 s9 hd => wcl_many R fun _ _ => ⟨_, rfl, rfl, rfl, d, _, _, rfl, hd, look_mw, _, rfl, rfl, rfl, d, _, _, rfl, hd, look_mm, _, rfl, rfl, rfl, d, _, _, rfl, hd, look_ml, sz3, fun t ht => key _ _ ⟨t, rfl, Same.new _ (s9) ht, upd_same⟩⟩)
      replace n0 : j ≠ 0 := fun z => n0 (by rw [z]; rfl)
      refine ⟨_, rfl, rfl, _, rfl, ite2 (fun e => ?_) (fun n1 => ?_)⟩
      · obtain rfl : j = 1 := by
          have := of_decide_eq_true e
          injection this with this
          omega
        refine ⟨_, rfl, _, rfl, rfl, rfl, "A", _, 1000, D2, as.map V.ref, _, 1, 0, 0, rfl, len_A, .inl ⟨p1, rfl, h1⟩, sq2, cn, ?_⟩
        rw [l2]
        exact Out.bad ckF1 (fun d H9 s9 hd => wcl_many R fun _ _ => ⟨_, rfl, rfl, rfl, d, _, _, rfl, hd, look_mw, _, rfl, rfl, rfl, d, _, _, rfl, hd, look_mm, _, rfl, rfl, rfl, d, _, _, rfl, hd, look_ml, sz3, fun t ht => key _ _ ⟨t, rfl, Same.new _ (s9) ht, upd_same⟩⟩)
      replace n1 : j ≠ 1 := fun z => n1 (by rw [z]; rfl)
      refine ⟨_, rfl, rfl, _, rfl, ite2 (fun e => ?_) (fun n2 => ?_)⟩
      · obtain rfl : j = 2 := by
          have := of_decide_eq_true e
          injection this with this
          omega
        exact ⟨_, rfl, r_mulI h1 sm_i fun p5 H5 s5 h5 => ⟨"A", _, 1000, 13, 0, 0, rfl, len_A, .inl ⟨p5, rfl, h5⟩, Out.bad ckF2 (fun d H9 s9 hd => wcl_name R fun _ _ => ⟨_, rfl, rfl, rfl, d, _, _, rfl, hd, look_x, sz1, fun t ht => key _ _ ⟨t, rfl, Same.new _ (s5.trans s9) ht, upd_same⟩⟩)⟩⟩
      replace n2 : j ≠ 2 := fun z => n2 (by rw [z]; rfl)
      refine ⟨_, rfl, rfl, _, rfl, ite2 (fun e => ?_) (fun n3 => ?_)⟩
      · obtain rfl : j = 3 := by
          have := of_decide_eq_true e
          injection this with this
          omega
        refine ⟨_, rfl, r_mulI h1 sm_i fun p5 H5 s5 h5 => ⟨_, rfl, r_atl (.inl ⟨p1, rfl, h1.same s5⟩) (g2_1 0) fun p6 H6 s6 h6 => ⟨_, rfl, _, rfl, ?_⟩⟩⟩
        have s46 := s5.trans s6
        refine r_imul (h2.same s46) sm_n fun p7 H7 s7 h7 => r_add (h1.same (s46.trans s7)) h7 fun p8 H8 s8 h8 => ?_
        refine r_atl (a := 1) (b := 13) (c := 0) (.inl ⟨p8, rfl, by simpa using h8⟩) (g2_1 13) fun p10 H10 s10 h10 => ⟨sz2, fun l hl => ?_⟩
        have s68 := s7.trans (s8.trans s10)
        have s11 := Same.new (.lst [.ref p6, .ref p10]) s68 hl
        have s12 := Same.new (.lst [.ref p6, .ref p10]) (Same.refl H10) hl
        exact ⟨rfl, rfl, "a", _, 1000, l, [.ref p6, .ref p10], [(1, 0, 0), (1, 13, 0)], 13, 0, 0, rfl, len_a, .inl ⟨p5, rfl, (h5.same s6).same s11⟩, .inl (SqL.of upd_same), cnds2 (atl_cnd T.toPrTx (h6.same s11)) (atl_cnd T.toPrTx (h10.same s12)), Out.bad ckF3 (fun d H9 s9 hd => wcl_num R fun _ _ => ⟨_, rfl, rfl, rfl, d, _, _, rfl, hd, look_w, _, rfl, rfl, rfl, d, _, _, rfl, hd, look_n, sz2, fun t ht => key _ _ ⟨t, rfl, Same.new _ (s46.trans (s11.trans s9)) ht, upd_same⟩⟩)⟩
      replace n3 : j ≠ 3 := fun z => n3 (by rw [z]; rfl)
      refine ⟨_, rfl, rfl, _, rfl, ite2 (fun e => ?_) (fun n4 => ?_)⟩
      · obtain rfl : j = 4 := by
          have := of_decide_eq_true e
          injection this with this
          omega
        exact ⟨_, rfl, r_mulI h1 sm_i fun p5 H5 s5 h5 => ⟨_, rfl, r_mulI (h2.same s5) sm_n fun p6 H6 s6 h6 => r_add (h5.same s6) h6 fun p7 H7 s7 h7 => ⟨"a", _, 1000, 13, 14, 0, rfl, len_a, .inl ⟨p7, rfl, h7⟩, Out.bad ckF4 (fun d H9 s9 hd => wcl_num R fun _ _ => ⟨_, rfl, rfl, rfl, d, _, _, rfl, hd, look_w, _, rfl, rfl, rfl, d, _, _, rfl, hd, look_n, sz2, fun t ht => key _ _ ⟨t, rfl, Same.new _ (s5.trans (s6.trans (s7.trans s9))) ht, upd_same⟩⟩)⟩⟩⟩
      replace n4 : j ≠ 4 := fun z => n4 (by rw [z]; rfl)
      refine ⟨_, rfl, rfl, _, rfl, ite2 (fun e => ?_) (fun n5 => ?_)⟩
      · obtain rfl : j = 5 := by
          have := of_decide_eq_true e
          injection this with this
          omega
        refine ⟨_, rfl, _, rfl, r_fd h2 (by decide) (gg2 4) fun p5 H5 s5 h5 => ⟨_, rfl, "a", _, 0, 1, 0, 0, rfl, len_a, .inl ⟨p1, rfl, h1.same s5⟩, Out.ok stm1 fun p6 H6 s6 _ => ⟨sz1, fun l hl => ?_⟩⟩⟩
        have s7 := Same.new (.lst [.ref p6]) s6 hl
        refine ⟨l, 17, [.ref p6], rfl, rfl, upd_same, by decide, by decide, ?_, fun l2 hl2 => ?_⟩
        · show 1 * 17 ≤ sizeLine
          decide
        have s8 := Same.new (.lst (List.replicate 17 [.ref p6]).flatten) s7 hl2
        refine ⟨rfl, rfl, _, _, l2, (List.replicate 17 [.ref p6]).flatten, (1, 0, 0, 1), (0, 1, 0, 4), 0, false, rfl, .inr ⟨.inl ⟨p1, rfl, (h1.same s5).same s8⟩, rfl⟩, .inl ⟨p5, rfl, h5.same s8⟩, .inl (SqL.of upd_same), ?_⟩
        rw [len_rep, List.length_replicate]
        exact Out.bad ckF5 (fun d H9 s9 hd => wcl_many R fun _ _ => ⟨_, rfl, rfl, rfl, d, _, _, rfl, hd, look_mw, _, rfl, rfl, rfl, d, _, _, rfl, hd, look_mm, _, rfl, rfl, rfl, d, _, _, rfl, hd, look_ml, sz3, fun t ht => key _ _ ⟨t, rfl, Same.new _ (s5.trans (s8.trans s9)) ht, upd_same⟩⟩)
      replace n5 : j ≠ 5 := fun z => n5 (by rw [z]; rfl)
      refine ⟨_, rfl, rfl, _, rfl, ite2 (fun e => ?_) (fun n6 => ?_)⟩
      · obtain rfl : j = 6 := by
          have := of_decide_eq_true e
          injection this with this
          omega
        refine ⟨_, rfl, _, rfl, r_fd h2 (by decide) (gg2 4) fun p5 H5 s5 h5 => ⟨_, rfl, "a", _, 0, 1, 0, 0, rfl, len_a, .inl ⟨p1, rfl, h1.same s5⟩, Out.ok stm1 fun p6 H6 s6 _ => ⟨sz1, fun l hl => ?_⟩⟩⟩
        have s7 := Same.new (.lst [.ref p6]) s6 hl
        refine ⟨l, 16, [.ref p6], rfl, rfl, upd_same, by decide, by decide, ?_, fun l2 hl2 => ?_⟩
        · show 1 * 16 ≤ sizeLine
          decide
        have s8 := Same.new (.lst (List.replicate 16 [.ref p6]).flatten) s7 hl2
        refine ⟨rfl, rfl, _, _, l2, (List.replicate 16 [.ref p6]).flatten, (1, 0, 0, 1), (0, 1, 0, 4), 17, false, rfl, .inr ⟨.inl ⟨p1, rfl, (h1.same s5).same s8⟩, rfl⟩, .inl ⟨p5, rfl, h5.same s8⟩, .inl (SqL.of upd_same), ?_⟩
        rw [len_rep, List.length_replicate]
        exact Out.bad ckF6 (fun d H9 s9 hd => wcl_num R fun _ _ => ⟨_, rfl, rfl, rfl, d, _, _, rfl, hd, look_w, _, rfl, rfl, rfl, d, _, _, rfl, hd, look_n, sz2, fun t ht => key _ _ ⟨t, rfl, Same.new _ (s5.trans (s8.trans s9)) ht, upd_same⟩⟩)
      replace n6 : j ≠ 6 := fun z => n6 (by rw [z]; rfl)
      refine ⟨_, rfl, rfl, _, rfl, ite2 (fun e => ?_) (fun n7 => ?_)⟩
      · obtain rfl : j = 7 := by
          have := of_decide_eq_true e
          injection this with this
          omega
        refine ⟨_, rfl, r_imul h2 sm_n fun p5 H5 s5 h5 => ⟨_, rfl, r_fd (h2.same s5) (by decide) (gg2 4) fun p6 H6 s6 h6 => ⟨sz0, fun l hl => ?_⟩⟩⟩
        have s7 := Same.new (.lst []) s6 hl
        have s8 := Same.new (.lst []) (Same.refl H6) hl
        exact ⟨rfl, rfl, _, _, l, [], (0, 4, 0, 1), (0, 1, 0, 4), 2, false, rfl, .inr ⟨.inl ⟨p5, rfl, h5.same s7⟩, rfl⟩, .inl ⟨p6, rfl, h6.same s8⟩, .inl (SqL.of upd_same), Out.bad ckF7 (fun d H9 s9 hd => wcl_num R fun _ _ => ⟨_, rfl, rfl, rfl, d, _, _, rfl, hd, look_w, _, rfl, rfl, rfl, d, _, _, rfl, hd, look_n, sz2, fun t ht => key _ _ ⟨t, rfl, Same.new _ (s5.trans (s7.trans s9)) ht, upd_same⟩⟩)⟩
      replace n7 : j ≠ 7 := fun z => n7 (by rw [z]; rfl)
      refine ⟨_, rfl, rfl, _, rfl, ite2 (fun e => ?_) (fun n8 => ?_)⟩
      · obtain rfl : j = 8 := by
          have := of_decide_eq_true e
          injection this with this
          omega
        refine ⟨_, rfl, r_fd h2 (by decide) (gg2 2) fun p5 H5 s5 h5 => ⟨_, rfl, r_addI (h2.same s5) fun p6 H6 s6 h6 => r_fd h6 (by decide) (by decide +kernel) fun p7 H7 s7 h7 => ⟨sz0, fun l hl => ?_⟩⟩⟩
        have s8 := Same.new (.lst []) (s6.trans s7) hl
        have s10 := Same.new (.lst []) (Same.refl H7) hl
        exact ⟨rfl, rfl, _, _, l, [], (0, 1, 0, 2), (0, 1, 1, 3), 2, false, rfl, .inl ⟨p5, rfl, h5.same s8⟩, .inl ⟨p7, rfl, h7.same s10⟩, .inl (SqL.of upd_same), Out.bad ckF8 (fun d H9 s9 hd => wcl_num R fun _ _ => ⟨_, rfl, rfl, rfl, d, _, _, rfl, hd, look_w, _, rfl, rfl, rfl, d, _, _, rfl, hd, look_n, sz2, fun t ht => key _ _ ⟨t, rfl, Same.new _ (s5.trans (s8.trans s9)) ht, upd_same⟩⟩)⟩
      replace n8 : j ≠ 8 := fun z => n8 (by rw [z]; rfl)
      refine ⟨_, rfl, _, _, rfl, rfl, _, rfl, ite2 (fun e => ?_) (fun n9 => ?_)⟩
      · have j9 : (9 : Int) < (j : Int) := of_decide_eq_true e
        refine ⟨_, rfl, _, rfl, _, rfl, j, p1, p2, rfl, by omega, hj, h1, h2, ?_⟩
        have jj : j = 10 ∨ j = 11 ∨ j = 12 ∨ j = 13 ∨ j = 14 := by omega
        rcases jj with rfl | rfl | rfl | rfl | rfl
        · exact fun d H9 s9 hd => wcl_num R fun _ _ => ⟨_, rfl, rfl, rfl, d, _, _, rfl, hd, look_w, _, rfl, rfl, rfl, d, _, _, rfl, hd, look_n, sz2, fun t ht => key _ _ ⟨t, rfl, Same.new _ (s9) ht, upd_same⟩⟩
        · exact fun d H9 s9 hd => wcl_name R fun _ _ => ⟨_, rfl, rfl, rfl, d, _, _, rfl, hd, look_x, sz1, fun t ht => key _ _ ⟨t, rfl, Same.new _ (s9) ht, upd_same⟩⟩
        · exact fun d H9 s9 hd => wcl_num R fun _ _ => ⟨_, rfl, rfl, rfl, d, _, _, rfl, hd, look_w, _, rfl, rfl, rfl, d, _, _, rfl, hd, look_n, sz2, fun t ht => key _ _ ⟨t, rfl, Same.new _ (s9) ht, upd_same⟩⟩
        · exact fun d H9 s9 hd => wcl_num R fun _ _ => ⟨_, rfl, rfl, rfl, d, _, _, rfl, hd, look_w, _, rfl, rfl, rfl, d, _, _, rfl, hd, look_n, sz2, fun t ht => key _ _ ⟨t, rfl, Same.new _ (s9) ht, upd_same⟩⟩
        · exact fun d H9 s9 hd => wcl_num R fun _ _ => ⟨_, rfl, rfl, rfl, d, _, _, rfl, hd, look_w, _, rfl, rfl, rfl, d, _, _, rfl, hd, look_n, sz2, fun t ht => key _ _ ⟨t, rfl, Same.new _ (s9) ht, upd_same⟩⟩
      obtain rfl : j = 9 := by
        have : ¬ ((9 : Int) < (j : Int)) := fun z => n9 (decide_eq_true z)
        omega
      refine ⟨_, rfl, sz0, fun l0 hl0 => ?_⟩
      have s5 := Same.new (.lst []) (Same.refl H4) hl0
      refine ⟨_, _, l0, [], (0, 0, 0, 1), (0, 1, 0, 1), 1, false, rfl, .inr ⟨.inr ⟨rfl, rfl, rfl⟩, rfl⟩, .inr ⟨.inl ⟨p2, rfl, h2.same s5⟩, rfl⟩, .inl (SqL.of upd_same), Out.ok ckLp0 fun p6 H6 s6 h6 => ⟨sz1, fun l hl => ?_⟩⟩
      have s7 := Same.new (.lst [.ref p6]) (Same.refl H6) hl
      refine ⟨l, 7, [.ref p6], rfl, rfl, upd_same, by decide, by decide, ?_, fun l2 hl2 => ?_⟩
      · show 1 * 7 ≤ sizeLine
        decide
      have s8 := Same.new (.lst (List.replicate 7 [.ref p6]).flatten) s7 hl2
      have ln : LpN K (upd (upd H6 l (.lst [.ref p6])) l2 (.lst (List.replicate 7 [.ref p6]).flatten)) (.ref p6) [] := by
        obtain ⟨dx, lo, hi, st, g1, g2, g3, g4⟩ := h6.same s8
        exact ⟨p6, dx, _, st, [], [], rfl, g1, lp_tt _ _ _ _ _, g4, ⟨rfl, fun i v m z => by cases z⟩, rfl⟩
      refine ⟨l2, (List.replicate 7 [.ref p6]).flatten, List.replicate 7 [], rfl, .inl (SqL.of upd_same), ⟨by rw [len_rep, List.length_replicate, List.length_replicate], fun i v m g1 g2 => ?_⟩, by decide, ?_⟩
      · rw [len_rep] at g1
        rw [List.eq_of_mem_replicate (List.mem_of_getElem? g1), List.eq_of_mem_replicate (List.mem_of_getElem? g2)]
        exact ln
      rw [len_rep, List.length_replicate]
      exact Out.bad (ckM_out (by decide)) (fun d H9 s9 hd => wcl_many R fun _ _ => ⟨_, rfl, rfl, rfl, d, _, _, rfl, hd, look_mw, _, rfl, rfl, rfl, d, _, _, rfl, hd, look_mm, _, rfl, rfl, rfl, d, _, _, rfl, hd, look_ml, sz3, fun t ht => key _ _ ⟨t, rfl, Same.new _ (s5.trans (s6.trans (s8.trans s9))) ht, upd_same⟩⟩)
    rintro σ H5 ⟨t, rfl, s5, ht⟩
    exact ⟨_, rfl, k _ _ (s04.trans s5) ht⟩
end
end K23

set_option maxHeartbeats 4000000
namespace K23
open PySem PySem.Spec PyProof.Rows L2 Z
theorem sz5 : 5 ≤ sizeLine := by show 5 ≤ sizeLine; decide
theorem sz20 : 20 ≤ sizeLine := by show 20 ≤ sizeLine; decide
theorem ty_tup {K : PySem.W.Frag} {H : Hp} {a : Addr} {xs : List V} (h : SqT K H a xs) : TyX K H (.ref a) (.type "tuple") := by
  rcases h with (h | ⟨o, h⟩) | ⟨o, its, n, h, c, _⟩
  · exact .base (.tup h)
  · exact .fTuple h
  · exact .kTuple h c
theorem ktt {K : PySem.W.Frag} : PySem.W.kitOne K (.type "tuple") (.type "tuple") = some true := kit_ty (by decide +kernel)
/-- what is no list stays -/
def NoL (H H' : Hp) : Prop := ∀ b o, (∀ l, o ≠ .lst l) → H b = some o → H' b = some o
theorem NoL.refl (H : Hp) : NoL H H := fun _ _ _ e => e
theorem NoL.sqt {K : PySem.W.Frag} {H H' : Hp} (n : NoL H H') {a : Addr} {xs : List V} (h : SqT K H a xs) : SqT K H' a xs :=
  h.imp (fun r => r.imp (fun z => n _ _ (fun _ y => by cases y) z) fun ⟨o, z⟩ => ⟨o, n _ _ (fun _ y => by cases y) z⟩) id
theorem NoL.updL {H H' : Hp} (n : NoL H H') {D : Addr} {l : List V} {o : HO} (h : H' D = some (.lst l)) : NoL H (upd H' D o) := fun b u q e => by
  have z := n b u q e
  rw [upd_ne (fun y => by
    rw [y, h] at z
    exact q _ (Option.some.inj z).symm)]
  exact z
theorem PlcAt.updL {K : PySem.W.Frag} {H : Hp} {p D : Addr} {a b c d : Int} {o : HO} {xs : List V} (h : PlcAt K H p a b c d) (hD : H D = some (.lst xs)) : PlcAt K (upd H D o) p a b c d := by
  obtain ⟨dx, q, h, g⟩ := h
  exact ⟨dx, q, by rw [upd_ne (fun z => by rw [z, hD] at h; cases h)]; exact h, StrAt.updL g hD⟩
theorem RdAt.updL {K : PySem.W.Frag} {H : Hp} {p D : Addr} {x : Str} {a b c d f : Int} {o : HO} {xs : List V} (h : RdAt K H p x a b c d f) (hD : H D = some (.lst xs)) : RdAt K (upd H D o) p x a b c d f := by
  obtain ⟨dx, q, h, g⟩ := h
  exact ⟨dx, q, by rw [upd_ne (fun z => by rw [z, hD] at h; cases h)]; exact h, PlcAt.updL g hD⟩
theorem len_b : ("b" : Str).length ≤ 1000 := by decide +kernel
theorem isName_b : isName "b" = true := by decide +kernel
theorem rd_okb : ckRead "b" 1 1 0 0 1 = none := by
  unfold ckRead ckP ckS
  rw [ck_a isName_b, ckN_in (v := 1) (by decide), ckN_in (v := 1) (by decide), ckN_in (v := 0) (by decide), ckN_in (v := 0) (by decide), ckN_in (v := 1) (by decide), if_neg (by decide)]
  rfl
theorem ckCp : ckStm 3 3 "a" [(1, 0, 0), (1, 0, 0), (1, 0, 0)] 1 0 0 5 = none := by
  unfold ckStm
  rw [ckM_in (v := 3) (by decide), ckM_in (v := 3) (by decide), ck_a isName_a]
  simp only [ckCs, ckS]
  rw [ckN_in (v := 1) (by decide), ckN_in (v := 0) (by decide), ckN_in (v := 0) (by decide), ckN_in (v := 5) (by decide)]
  rfl
theorem ckLp16 : ckLp 16 1 (0, 0, 0, 1) (0, 1, 0, 1) = none := by
  show (ckM "statements" 16 16).or ((ckN "step" 1 1 16).or ((ckR 0 0 0 1).or ((ckR 0 1 0 1).or (if (1 : Int) < 1 ∧ (1 : Int) < 1 then some (Er.num "step" 1) else none)))) = _
  rw [ckRn, ckR0, ckM_in (v := 16) (by decide), ckN_in (v := 1) (by decide), if_neg (by decide)]
  rfl
/-- two names, in order -/
theorem two_names {ys : List Str} {l : List Str} (nd : ys.Nodup) (mem : ∀ x, x ∈ ys ↔ x ∈ l) (srt : sortedS ys = true) (hl : ∀ x, x ∈ l ↔ x = "a" ∨ x = "b") : ys = [("a" : Str), ("b" : Str)] := by
  have m : ∀ x, x ∈ ys ↔ x = "a" ∨ x = "b" := fun x => (mem x).trans (hl x)
  have ab : ¬ (("a" : Str) = "b") := by decide +kernel
  have ba : sortedS [("b" : Str), ("a" : Str)] = false := by decide +kernel
  have ha := (m "a").mpr (.inl rfl)
  have hb := (m "b").mpr (.inr rfl)
  match ys, nd, m, srt, ha, hb with
  | [], _, _, _, ha, _ => cases ha
  | [x], _, m, _, ha, hb =>
    rw [List.mem_singleton] at ha hb
    exact absurd (ha.trans hb.symm) ab
  | [x, y], nd, m, srt, ha, hb =>
    have hx := (m x).mp (by simp)
    have hy := (m y).mp (by simp)
    have nxy : x ≠ y := fun z => by
      subst z
      simp at nd
    rcases hx with hx | hx <;> rcases hy with hy | hy
    · exact absurd (hx.trans hy.symm) nxy
    · rw [hx, hy]
    · rw [hx, hy, ba] at srt
      cases srt
    · exact absurd (hx.trans hy.symm) nxy
  | x :: y :: z :: r, nd, m, _, _, _ =>
    have hx := (m x).mp (by simp)
    have hy := (m y).mp (by simp)
    have hz := (m z).mp (by simp)
    exfalso
    simp only [List.nodup_cons, List.mem_cons, not_or] at nd
    obtain ⟨⟨n1, n2, _⟩, ⟨n3, _⟩, _⟩ := nd
    rcases hx with hx | hx <;> rcases hy with hy | hy <;> rcases hz with hz | hz <;> first | exact n1 (hx.trans hy.symm) | exact n2 (hx.trans hz.symm) | exact n3 (hy.trans hz.symm)
/-- isinstance, K told -/
theorem call_isiE {X : Cx} {K : PySem.W.Frag} (hK : X.K = K) : CallR X (.builtin "isinstance") (rIsi K) := by
  subst hK
  exact call_isi
theorem ab_shaped : SeqAt.shaped (.tuple [.str "a", .str "b"]) = true := by decide +kernel
theorem dp_ab {K : PySem.W.Frag} {H : Hp} {t : Addr} (h : SqT K H t ([("a" : Str), ("b" : Str)].map V.str)) : Dp K H (.ref t) (.tuple [.str "a", .str "b"]) := .tup h (.cons (.str _) (.cons (.str _) .nil))
theorem prf_l (l a d : Addr) : (prf l a d).lookup ("loops" : Str) = some (.ref l) := by
  unfold prf prf2
  rw [lookup_putF, if_neg (by decide +kernel), lookup_putF, if_neg (by decide +kernel), lookup_putF, if_pos rfl]
theorem prf_a (l a d : Addr) : (prf l a d).lookup ("arrays" : Str) = some (.ref a) := by
  unfold prf prf2
  rw [lookup_putF, if_neg (by decide +kernel), lookup_putF, if_pos rfl]
def abN : List Str := ["a", "b", "b", "b"]
def bbb : List Str := ["b", "b", "b"]
theorem mem_ab (x : Str) : x ∈ (List.replicate 6 (List.replicate 16 abN).flatten).flatten ↔ x = "a" ∨ x = "b" := by
  constructor
  · intro h
    obtain ⟨l, hl, hx⟩ := List.mem_flatten.mp h
    rw [List.eq_of_mem_replicate hl] at hx
    obtain ⟨l2, hl2, hx⟩ := List.mem_flatten.mp hx
    rw [List.eq_of_mem_replicate hl2] at hx
    simp only [abN, List.mem_cons, List.not_mem_nil, or_false] at hx
    rcases hx with h | h | h | h
    · exact .inl h
    · exact .inr h
    · exact .inr h
    · exact .inr h
  · intro h
    refine List.mem_flatten.mpr ⟨_, List.mem_replicate.mpr ⟨by decide, rfl⟩, List.mem_flatten.mpr ⟨_, List.mem_replicate.mpr ⟨by decide, rfl⟩, ?_⟩⟩
    rcases h with rfl | rfl
    · exact List.mem_cons_self
    · exact List.mem_cons_of_mem _ List.mem_cons_self
theorem none_of {H H' : Hp} {D : Addr} (s : Same H H') (h : H' D = none) : H D = none := by
  cases e : H D with
  | none => rfl
  | some o =>
    rw [s _ _ e] at h
    cases h
theorem nodup4 {a b c d : Addr} (h1 : a ≠ b) (h2 : a ≠ c) (h3 : a ≠ d) (h4 : b ≠ c) (h5 : b ≠ d) (h6 : c ≠ d) : [a, b, c, d].Nodup := by
  simp [h1, h2, h3, h4, h5, h6]
def spCopies : Sp := fun vs H Q _ => ∃ v, vs = [v] ∧ ∀ H', Same H H' → Q (.bl true) H'
section
variable {P : Program} {w : World} {K : PySem.W.Frag} {mg : Str → Option Value} {base : Heap}
theorem sc_law_copies : FnScope ["_law_pen_here", "_law_i", "_law_n", "_law_read", "_law_guards", "_law_k", "_law_statement", "_law_inner", "_law_loop", "_law_rows", "_law_program", "_law_row", "_law_tuples"] ["_law_pen_here"] (defScope s_law_copies) := ⟨rfl, rfl, rfl, by decide +kernel, rfl, by decide +kernel, by decide +kernel⟩
theorem ok_copies {f : Addr} {fd : FuncData} (F : FnP K "_law_copies" s_law_copies f fd) (T : LwTx K mg) (M : MkS P w K mg base) (MA : MkA P w K mg base) (MRd : MkRd P w K mg base) (MSt : MkSt P w K mg base) (MLp : MkLp P w K mg base) (MPr : MkPr P w K mg base) : FnOk P w K mg base CX0 10 f fd ["_law_pen_here"] spCopies := by
  refine F.ok sc_law_copies (fun vs H Q E h => ?_) (fun cdv A outer s H vs Q E hr h => ?_)
  · obtain ⟨v, rfl, _⟩ := h
    rfl
  · obtain ⟨v, rfl, k⟩ := h
    refine ⟨_, PSs.nox (pss_cons (ps_asg (pe_tup (pa_cons (pe_S T.toStTx M hr (pa_cons pe_int (pa_cons pe_int (pa_cons pe_int pa_nil)))) (pa_cons (pe_S T.toStTx M hr (pa_cons pe_int (pa_cons pe_int (pa_cons pe_int pa_nil)))) pa_nil))) (pg_tup (by rfl) (pgs_cons (pg_name (i := 1) sc_law_copies.nd rfl (.inr rfl)) (pgs_cons (pg_name (i := 2) sc_law_copies.nd rfl (.inl rfl)) pgs_nil))))
      (pss_cons (ps_par (i := 3) (j := 4) (by rfl) sc_law_copies.nd rfl rfl (by decide) rfl rfl (pa_cons (pe_lc (own := [("_law_k", 5)]) (g := gName 5) (tt := tYes) rfl sc_law_copies.nd (pi_range1 (by rfl) T.range (pa_cons pe_int pa_nil)) (blkOk_by (N := ["_law_pen_here", "_law_i", "_law_n", "_law_read", "_law_guards", "_law_k", "_law_statement", "_law_inner", "_law_loop", "_law_rows", "_law_program", "_law_row", "_law_tuples"]) (sc := defScope s_law_copies) (by decide +kernel)) (fun _ _ _ _ _ => (pg_name (i := 5) sc_law_copies.nd rfl (.inl rfl))) (fun _ _ _ _ _ => pts_nil) (fun _ _ _ _ _ => (pe_RdP (K := K) MRd rfl hr at_E0 (pa_cons pe_str (pa_cons (pv 1) pa_nil))))) (pa_cons (pe_lc (own := [("_law_k", 5)]) (g := gName 5) (tt := tYes) rfl sc_law_copies.nd (pi_range1 (by rfl) T.range (pa_cons pe_int pa_nil)) (blkOk_by (N := ["_law_pen_here", "_law_i", "_law_n", "_law_read", "_law_guards", "_law_k", "_law_statement", "_law_inner", "_law_loop", "_law_rows", "_law_program", "_law_row", "_law_tuples"]) (sc := defScope s_law_copies) (by decide +kernel)) (fun _ _ _ _ _ => (pg_name (i := 5) sc_law_copies.nd rfl (.inl rfl))) (fun _ _ _ _ _ => pts_nil) (fun _ _ _ _ _ => (pe_AK (K := K) rfl T.toAtTx MA hr (pa_cons (pv 1) pa_nil)))) pa_nil)) (by rfl))
      (pss_cons (ps_set (i := 6) sc_law_copies.nd rfl (Or.inr rfl) (pe_StK2 (K := K) MSt rfl hr at_E0 (pa_cons pe_str (pa_cons (pv 1) (pa_cons pe_int pa_nil))) (pk_cons (pv 3) (pk_cons (pv 4) pk_nil))))
      (pss_cons (ps_setLc (i := 7) (own := [("_law_k", 5)]) (g := gName 5) (tt := tYes) rfl sc_law_copies.nd rfl rfl (sw_true rfl rfl rfl (by decide +kernel)) (pi_range1 (by rfl) T.range (pa_cons pe_int pa_nil)) (blkOk_by (N := ["_law_pen_here", "_law_i", "_law_n", "_law_read", "_law_guards", "_law_k", "_law_statement", "_law_inner", "_law_loop", "_law_rows", "_law_program", "_law_row", "_law_tuples"]) (sc := defScope s_law_copies) (by decide +kernel)) (fun _ _ _ _ _ => (pg_name (i := 5) sc_law_copies.nd rfl (.inl rfl))) (fun _ _ _ _ _ => pts_nil) (fun _ _ _ _ _ => (pv 6)))
      (pss_cons (ps_set (i := 8) sc_law_copies.nd rfl (Or.inr rfl) (pe_LpP (K := K) MLp rfl hr at_E0 (pa_cons pe_int (pa_cons (pv 2) (pa_cons (pv 7) pa_nil)))))
      (pss_cons (ps_setLc (i := 9) (own := [("_law_k", 5)]) (g := gName 5) (tt := tYes) rfl sc_law_copies.nd rfl rfl (sw_true rfl rfl rfl (by decide +kernel)) (pi_range1 (by rfl) T.range (pa_cons pe_int pa_nil)) (blkOk_by (N := ["_law_pen_here", "_law_i", "_law_n", "_law_read", "_law_guards", "_law_k", "_law_statement", "_law_inner", "_law_loop", "_law_rows", "_law_program", "_law_row", "_law_tuples"]) (sc := defScope s_law_copies) (by decide +kernel)) (fun _ _ _ _ _ => (pg_name (i := 5) sc_law_copies.nd rfl (.inl rfl))) (fun _ _ _ _ _ => pts_nil) (fun _ _ _ _ _ => (pv 8)))
      (pss_cons (ps_set (i := 10) sc_law_copies.nd rfl (Or.inl rfl) (pe_PrP (K := K) MPr rfl hr at_E0 (pa_cons (pv 9) pa_nil)))
      (pss_cons (ps_for PassesOwn.never rfl (pi_tup (pe_tup (pa_cons (pv 3) (pa_cons (pv 4) (pa_cons (pv 7) (pa_cons (pv 9) pa_nil)))))) (pg_name (i := 11) sc_law_copies.nd rfl (.inl rfl)) (pss_one (ps_expr (pe_bm0 PySem.F.plainAttrs_list PySem.F.slot_list_pop PySem.F.type_list_pop mt_pop (pv 11)))))
      (pss_cons (ps_if (PW.pt (pw_or (pt_cmpR op_ne (pe_callB call_len_seq (by rfl) T.len PySem.boot_len (pa_cons (pe_fld (pv 6) rfl) pa_nil)) pe_int (nomark _)) (pw_or (pt_cmpR op_ne (pe_callB call_len_seq (by rfl) T.len PySem.boot_len (pa_cons (pe_fld (pv 6) rfl) pa_nil)) pe_int (nomark _)) (pw_or1 (pt_cmpR op_ne (pe_callB call_len_seq (by rfl) T.len PySem.boot_len (pa_cons (pe_fld (pv 8) rfl) pa_nil)) pe_int (nomark _)))))) (pss_one (ps_ret pe_bl)) pss_nil)
      (pss_cons (ps_set (i := 12) sc_law_copies.nd rfl (Or.inl rfl) (pe_lst (pa_cons (pe_fld (pv 6) rfl) (pa_cons (pe_fld (pv 6) rfl) (pa_cons (pe_fld (pv 8) rfl) (pa_cons (pe_fld (pv 10) rfl) (pa_cons (pe_fld (pv 10) rfl) pa_nil)))))))
      (pss_cons (ps_if (PW.pt (pw_or (pt_not (pt_val (pe_callB (cr_all rfl) (by rfl) T.all (by decide +kernel) (pa_cons (pe_lc (own := [("_law_row", 11)]) (g := gName 11) (tt := tYes) rfl sc_law_copies.nd (pi_list (pv 12)) (blkOk_by (N := ["_law_pen_here", "_law_i", "_law_n", "_law_read", "_law_guards", "_law_k", "_law_statement", "_law_inner", "_law_loop", "_law_rows", "_law_program", "_law_row", "_law_tuples"]) (sc := defScope s_law_copies) (by decide +kernel)) (fun _ _ _ _ _ => (pg_name (i := 11) sc_law_copies.nd rfl (.inl rfl))) (fun _ _ _ _ _ => pts_nil) (fun _ _ _ _ _ => (pe_callB (call_isiE (K := K) rfl) (by rfl) T.isi (by decide +kernel) (pa_cons (pv 11) (pa_cons (pe_bltn (v := .ty "tuple") (by rfl) T.tuple (by decide +kernel) rfl) pa_nil))))) pa_nil)))) (pw_or1 (pt_cmpR op_ne (pe_callB call_len_seq (by rfl) T.len PySem.boot_len (pa_cons (pe_fld (pv 10) rfl) pa_nil)) pe_int (nomark _))))) (pss_one (ps_ret pe_bl)) pss_nil)
      (pss_one (ps_ret (pe_and (pe_cmpR (op_eqD hr.units) (pe_fld (pv 10) rfl) (pe_tup (pa_cons pe_str (pa_cons pe_str pa_nil))) (nomark _)) (pe_and (pe_cmpR op_eq (pe_fld (pv 8) rfl) pe_int (nomark _)) (pe_and (pe_cmpR op_isBl (pe_fld (pv 8) rfl) pe_bl (nomark _)) (pe_one (pe_cmpR op_eq (pe_fld (pv 6) rfl) pe_int (nomark _))))))))))))))))))), ?_⟩
    refine ⟨_, _, _, rfl, fun p1 H1 s1 _ h1 => ⟨_, _, _, rfl, fun p2 H0 s0 _ h2 => ⟨sz2, fun t0 ht0 => ⟨t0, _, rfl, SqT.of upd_same, rfl, _, _, rfl, _, _, rfl, rfl, ?_⟩⟩⟩⟩
    obtain ⟨H2, e2⟩ : ∃ L, L = upd H0 t0 (.tup [.ref p1, .ref p2]) := ⟨_, rfl⟩
    rw [← e2]
    have s02 : Same H0 H2 := by rw [e2]; exact Same.new _ (Same.refl _) ht0
    have s2 := s0.trans s02
    have h2 := h2.same s02
    have h1 := h1.same s2
    have sH2 : Same H H2 := s1.trans s2
    refine norm (σ' := [some v, some (.ref p1), some (.ref p2), none, none, none, none, none, none, none, none, none, none]) rfl ?_
    refine ⟨3, rfl, by omega, by omega, ?_⟩
    rw [show Int.toNat 3 = 3 from rfl]
    intro D1 hD1
    refine lc_range (lo := 0) (n := 3) (te := fun σ H Q => tCons (tC (V.str "b")) (tCons (tVar 1) tNil) σ H fun vs H1 => rRd K (vs ++ [.int 1]) H1 Q E0) (fun i Hc => ∃ as : List Addr, as.length = i ∧ Hc D1 = some (.lst (as.map V.ref)) ∧ Same H2 Hc ∧ ∀ a ∈ as, RdAt K Hc a "b" 1 0 0 1 1) ⟨[], rfl, upd_same, Same.new _ (Same.refl _) hD1, fun _ z => by cases z⟩ ?_ ?_
    · rintro i Hc hi ⟨as, hl, hD, sc, hA⟩
      refine ⟨rfl, yes_of ?_⟩
      refine ⟨_, rfl, "b", _, 1, 1, 0, 0, 1, rfl, len_b, .inr ⟨.inl ⟨p1, rfl, h1.same sc⟩, rfl⟩, Out.ok rd_okb fun p3 H3 s3 h3 => ⟨as.map V.ref, s3 _ _ hD, ?_, as ++ [p3], ?_, ?_, same_upd (sc.trans s3) hD1, fun a ha => ?_⟩⟩
      · have := sz10
        rw [List.length_map]
        omega
      · rw [List.length_append, hl]
        rfl
      · rw [upd_same, List.map_append]
        rfl
      · rcases List.mem_append.mp ha with z | z
        · exact RdAt.updL ((hA a z).same s3) (s3 _ _ hD)
        · rw [List.mem_singleton.mp z]
          exact RdAt.updL h3 (s3 _ _ hD)
    rintro H3 ⟨rs, lrs, hD1', s3, hR⟩
    have h1 := h1.same s3
    have h2 := h2.same s3
    refine ⟨3, rfl, by omega, by omega, ?_⟩
    rw [show Int.toNat 3 = 3 from rfl]
    intro D2 hD2
    have n12 : D1 ≠ D2 := fun z => by
      rw [← z, hD1'] at hD2
      cases hD2
    have sD := Same.new (.lst []) (Same.refl H3) hD2
    refine lc_range (lo := 0) (n := 3) (te := fun σ H Q => tCons (tVar 1) tNil σ H fun vs H1 => ∃ v a b c, vs = [v] ∧ SumV K H1 v a b c ∧ g2 a b < 1073741824 ∧ NewA K H1 (a.fdiv (g2 a b)) (b.fdiv (g2 a b)) (lf3 a b c) Q) (fun i Hc => ∃ as : List Addr, as.length = i ∧ Hc D2 = some (.lst (as.map V.ref)) ∧ Same H3 Hc ∧ ∀ a ∈ as, AtlAt K Hc a 1 0 0) ⟨[], rfl, upd_same, sD, fun _ z => by cases z⟩ ?_ ?_
    · rintro i Hc hi ⟨as, hl, hD, sc, hA⟩
      refine ⟨rfl, yes_of ?_⟩
      refine ⟨_, rfl, r_atl (.inl ⟨p1, rfl, h1.same sc⟩) (g2_1 0) fun p3 H4 s4 h4 => ⟨as.map V.ref, s4 _ _ hD, ?_, as ++ [p3], ?_, ?_, same_upd (sc.trans s4) hD2, fun a ha => ?_⟩⟩
      · have := sz10
        rw [List.length_map]
        omega
      · rw [List.length_append, hl]
        rfl
      · rw [upd_same, List.map_append]
        rfl
      · rcases List.mem_append.mp ha with z | z
        · exact AtlAt.updL ((hA a z).same s4) (s4 _ _ hD)
        · rw [List.mem_singleton.mp z]
          exact AtlAt.updL h4 (s4 _ _ hD)
    rintro H4 ⟨as, las, hD2', s4, hA⟩
    have h1 := h1.same s4
    have h2 := h2.same s4
    have hD1' := s4 _ _ hD1'
    have sH4 : Same H H4 := sH2.trans (s3.trans s4)
    refine ⟨_, _, rfl, ?_⟩
    refine norm (σ' := [some v, some (.ref p1), some (.ref p2), some (.ref D1), some (.ref D2), none, none, none, none, none, none, none, none]) rfl ?_
    have sq1 : SqA K H4 D1 (rs.map V.ref) := .inl (SqL.of hD1')
    have sq2 : SqA K H4 D2 (as.map V.ref) := .inl (SqL.of hD2')
    have cn : Cnds K H4 (as.map V.ref) [(1, 0, 0), (1, 0, 0), (1, 0, 0)] := by
      refine ⟨by rw [List.length_map, las]; rfl, fun i v t g1 g2 => ?_⟩
      rw [List.getElem?_map] at g1
      obtain ⟨a, ha, rfl⟩ := Option.map_eq_some_iff.mp g1
      have := List.eq_of_mem_replicate (n := 3) (List.mem_of_getElem? (show (List.replicate 3 ((1 : Int), (0 : Int), (0 : Int)))[i]? = some t from g2))
      subst this
      exact atl_cnd T.toPrTx (hA a (List.mem_of_getElem? ha))
    have l1 : (rs.map V.ref).length = 3 := by rw [List.length_map, lrs]
    have l2 : (as.map V.ref).length = 3 := by rw [List.length_map, las]
    refine ⟨_, rfl, _, rfl, _, rfl, rfl, rfl, "a", _, 5, D1, D2, rs.map V.ref, as.map V.ref, _, 1, 0, 0, rfl, len_a, .inl ⟨p1, rfl, h1⟩, sq1, sq2, cn, ?_⟩
    rw [l1, l2]
    refine Out.ok ckCp fun pS H5 s5 hS => ?_
    have h2 := h2.same s5
    have hR5 : ∀ a ∈ rs, RdAt K H5 a "b" 1 0 0 1 1 := fun a ha => ((hR a ha).same s4).same s5
    refine normG (σ' := [some v, some (.ref p1), some (.ref p2), some (.ref D1), some (.ref D2), none, some (.ref pS), none, none, none, none, none, none]) rfl ?_
    refine ⟨16, rfl, by omega, by omega, ?_⟩
    rw [show Int.toNat 16 = 16 from rfl]
    intro D3 hD3
    have hD1' := s5 _ _ hD1'
    have hD2' := s5 _ _ hD2'
    have n13 : D1 ≠ D3 := fun z => by
      rw [← z, hD1'] at hD3
      cases hD3
    have n23 : D2 ≠ D3 := fun z => by
      rw [← z, hD2'] at hD3
      cases hD3
    refine lc_range (lo := 0) (n := 16) (te := tVar 6) (fun i Hc => Hc D3 = some (.lst (List.replicate i (.ref pS))) ∧ Same H5 Hc) ⟨upd_same, Same.new _ (Same.refl _) hD3⟩ ?_ ?_
    · rintro i Hc hi ⟨hD, sc⟩
      refine ⟨rfl, yes_of ?_⟩
      refine ⟨_, rfl, _, hD, ?_, ?_, same_upd sc hD3⟩
      · have := sz20
        rw [List.length_replicate]
        omega
      · rw [upd_same, List.replicate_succ']
    rintro H6 ⟨hD3', s6⟩
    have h2 := h2.same s6
    have hS := hS.same s6
    have hR6 : ∀ a ∈ rs, RdAt K H6 a "b" 1 0 0 1 1 := fun a ha => (hR5 a ha).same s6
    have hD1' := s6 _ _ hD1'
    have hD2' := s6 _ _ hD2'
    have sH6 : Same H H6 := sH4.trans (s5.trans s6)
    refine normG (σ' := [some v, some (.ref p1), some (.ref p2), some (.ref D1), some (.ref D2), none, some (.ref pS), some (.ref D3), none, none, none, none, none]) rfl ?_
    refine ⟨_, rfl, _, rfl, _, _, D3, _, (0, 0, 0, 1), (0, 1, 0, 1), 1, false, rfl, .inr ⟨.inr ⟨rfl, rfl, rfl⟩, rfl⟩, .inr ⟨.inl ⟨p2, rfl, h2⟩, rfl⟩, .inl (SqL.of hD3'), ?_⟩
    rw [List.length_replicate]
    refine Out.ok ckLp16 fun pL H7 s7 hL => ?_
    have hS := hS.same s7
    have hR7 : ∀ a ∈ rs, RdAt K H7 a "b" 1 0 0 1 1 := fun a ha => (hR6 a ha).same s7
    have hD1' := s7 _ _ hD1'
    have hD2' := s7 _ _ hD2'
    have hD3' := s7 _ _ hD3'
    refine normG (σ' := [some v, some (.ref p1), some (.ref p2), some (.ref D1), some (.ref D2), none, some (.ref pS), some (.ref D3), some (.ref pL), none, none, none, none]) rfl ?_
    refine ⟨6, rfl, by omega, by omega, ?_⟩
    rw [show Int.toNat 6 = 6 from rfl]
    intro D4 hD4
    have n14 : D1 ≠ D4 := fun z => by
      rw [← z, hD1'] at hD4
      cases hD4
    have n24 : D2 ≠ D4 := fun z => by
      rw [← z, hD2'] at hD4
      cases hD4
    have n34 : D3 ≠ D4 := fun z => by
      rw [← z, hD3'] at hD4
      cases hD4
    refine lc_range (lo := 0) (n := 6) (te := tVar 8) (fun i Hc => Hc D4 = some (.lst (List.replicate i (.ref pL))) ∧ Same H7 Hc) ⟨upd_same, Same.new _ (Same.refl _) hD4⟩ ?_ ?_
    · rintro i Hc hi ⟨hD, sc⟩
      refine ⟨rfl, yes_of ?_⟩
      refine ⟨_, rfl, _, hD, ?_, ?_, same_upd sc hD4⟩
      · have := sz20
        rw [List.length_replicate]
        omega
      · rw [upd_same, List.replicate_succ']
    rintro H8 ⟨hD4', s8⟩
    have hS := hS.same s8
    have hL := hL.same s8
    have hR8 : ∀ a ∈ rs, RdAt K H8 a "b" 1 0 0 1 1 := fun a ha => (hR7 a ha).same s8
    have hD1' := s8 _ _ hD1'
    have hD2' := s8 _ _ hD2'
    have hD3' := s8 _ _ hD3'
    have sH8 : Same H H8 := sH6.trans (s7.trans s8)
    refine normG (σ' := [some v, some (.ref p1), some (.ref p2), some (.ref D1), some (.ref D2), none, some (.ref pS), some (.ref D3), some (.ref pL), some (.ref D4), none, none, none]) rfl ?_
    have rn : RdNs K H8 (rs.map V.ref) bbb := by
      refine ⟨by rw [List.length_map, lrs]; rfl, fun i v y g1 g2 => ?_⟩
      rw [List.getElem?_map] at g1
      obtain ⟨a, ha, rfl⟩ := Option.map_eq_some_iff.mp g1
      have := List.eq_of_mem_replicate (n := 3) (List.mem_of_getElem? (show (List.replicate 3 ("b" : Str))[i]? = some y from g2))
      subst this
      obtain ⟨dx, q, g, _⟩ := hR8 a (List.mem_of_getElem? ha)
      exact ⟨a, dx, _, rfl, g, rdf_a _ _ _⟩
    have stn : StN K H8 (.ref pS) abN := by
      obtain ⟨dx, q, r, g, g1, g2, g3, g4⟩ := id hS
      exact ⟨pS, dx, _, "a", r, rs.map V.ref, bbb, rfl, g1, stf_a _ _ _ _ _, stf_r _ _ _ _ _, g3, rn, rfl⟩
    have lpn : LpN K H8 (.ref pL) (List.replicate 16 abN).flatten := by
      obtain ⟨dx, lo, hi, st, g1, g2, g3, g4⟩ := id hL
      refine ⟨pL, dx, _, st, _, List.replicate 16 abN, rfl, g1, lp_tt _ _ _ _ _, g4, ⟨by rw [List.length_replicate, List.length_replicate], fun i v m z1 z2 => ?_⟩, rfl⟩
      rw [List.eq_of_mem_replicate (List.mem_of_getElem? z1), List.eq_of_mem_replicate (List.mem_of_getElem? z2)]
      exact stn
    refine ⟨_, rfl, D4, _, List.replicate 6 (List.replicate 16 abN).flatten, rfl, .inl (SqL.of hD4'), ⟨by rw [List.length_replicate, List.length_replicate], fun i v m z1 z2 => ?_⟩, by decide +kernel, ?_⟩
    · rw [List.eq_of_mem_replicate (List.mem_of_getElem? z1), List.eq_of_mem_replicate (List.mem_of_getElem? z2)]
      exact lpn
    rw [List.length_replicate]
    refine Out.ok (ckM_in (by decide)) fun pP ys H9 s9 hP nd mem srt => ?_
    have hS := hS.same s9
    have hL := hL.same s9
    have hD1' := s9 _ _ hD1'
    have hD2' := s9 _ _ hD2'
    have hD3' := s9 _ _ hD3'
    have hD4' := s9 _ _ hD4'
    have sH9 : Same H H9 := sH8.trans s9
    have yab : ys = [("a" : Str), ("b" : Str)] := two_names nd mem srt mem_ab
    subst yab
    refine normG (σ' := [some v, some (.ref p1), some (.ref p2), some (.ref D1), some (.ref D2), none, some (.ref pS), some (.ref D3), some (.ref pL), some (.ref D4), some (.ref pP), none, none]) rfl ?_
    refine ⟨_, rfl, _, rfl, _, rfl, _, rfl, sz4, fun tT hT => ?_⟩
    have nd4 := nodup4 n12 n13 n14 n23 n24 n34
    have fr : ∀ D ∈ [D1, D2, D3, D4], H D = none := fun D hD => by
      simp only [List.mem_cons, List.not_mem_nil, or_false] at hD
      rcases hD with rfl | rfl | rfl | rfl
      · exact none_of sH2 hD1
      · exact none_of (sH2.trans s3) hD2
      · exact none_of (sH4.trans s5) hD3
      · exact none_of (sH6.trans s7) hD4
    obtain ⟨HA, eA⟩ : ∃ L, L = upd H9 tT (.tup ([D1, D2, D3, D4].map V.ref)) := ⟨_, rfl⟩
    have sA : Same H9 HA := by rw [eA]; exact Same.new _ (Same.refl _) hT
    have hTA : HA tT = some (.tup ([D1, D2, D3, D4].map V.ref)) := by rw [eA]; exact upd_same
    show _
    refine ⟨tT, rfl, ⟨_, SqT.of (xs := [D1, D2, D3, D4].map V.ref) upd_same⟩, for_tup (xs := [D1, D2, D3, D4].map V.ref) (fun i σ Hc => ∃ v11, σ = [some v, some (.ref p1), some (.ref p2), some (.ref D1), some (.ref D2), none, some (.ref pS), some (.ref D3), some (.ref pL), some (.ref D4), some (.ref pP), v11, none] ∧ NoL HA Hc ∧ Same H Hc ∧ ∀ k D, [D1, D2, D3, D4][k]? = some D → i ≤ k → ∃ l, Hc D = some (.lst l) ∧ l ≠ []) ⟨_, rfl, (by rw [eA]; exact NoL.refl _), (by
      have := sH9.trans sA
      rw [eA] at this
      exact this), fun k D hk _ => ?_⟩ (fun i σ Hc _ ⟨_, _, nl, _⟩ => SqT.of (nl _ _ (fun _ z => by cases z) hTA)) ?_ ?_⟩
    · have hm := List.mem_of_getElem? hk
      simp only [List.mem_cons, List.not_mem_nil, or_false] at hm
      have up : ∀ {D l}, H9 D = some (.lst l) → (upd H9 tT (.tup ([D1, D2, D3, D4].map V.ref))) D = some (.lst l) := fun h => by
        have := sA _ _ h
        rw [eA] at this
        exact this
      rcases hm with rfl | rfl | rfl | rfl
      · exact ⟨_, up hD1', fun z => by rw [z] at l1; cases l1⟩
      · exact ⟨_, up hD2', fun z => by rw [z] at l2; cases l2⟩
      · exact ⟨_, up hD3', fun z => by cases z⟩
      · exact ⟨_, up hD4', fun z => by cases z⟩
    · rintro i x σ Hc hx ⟨v11, rfl, nl, sm, cc⟩
      rw [List.getElem?_map] at hx
      obtain ⟨D, hD, rfl⟩ := Option.map_eq_some_iff.mp hx
      obtain ⟨l, hl, hne⟩ := cc i D hD (Nat.le_refl _)
      refine normG (σ' := [some v, some (.ref p1), some (.ref p2), some (.ref D1), some (.ref D2), none, some (.ref pS), some (.ref D3), some (.ref pL), some (.ref D4), some (.ref pP), some (.ref D), none]) rfl ?_
      have pos : 0 < l.length := List.length_pos_iff.mpr hne
      refine ⟨_, rfl, .inl ⟨rfl, _, SqL.of hl⟩, D, l, l[l.length - 1]'(by omega), rfl, rfl, hl, List.getElem?_eq_getElem (by omega), ⟨_, rfl, nl.updL hl, same_upd sm (fr D (List.mem_of_getElem? hD)), fun k D' hk hik => ?_⟩⟩
      have ne : D' ≠ D := fun z => by
        obtain ⟨q1, e1⟩ := List.getElem?_eq_some_iff.mp hD
        obtain ⟨q2, e2⟩ := List.getElem?_eq_some_iff.mp hk
        exact List.pairwise_iff_getElem.mp nd4 i k q1 q2 (by omega) (by rw [e1, e2, z])
      obtain ⟨l2, z1, z2⟩ := cc k D' hk (by omega)
      exact ⟨l2, by rw [upd_ne ne]; exact z1, z2⟩
    rintro σ Hc ⟨v11, rfl, nl, sm, _⟩
    have nl9 : NoL H9 Hc := fun b o q e => nl b o q (sA b o e)
    obtain ⟨dS, qS, rS, gS, a1, a2, a3, a4⟩ := hS
    obtain ⟨dL, lo, hi, st, b1, b2, b3, b4⟩ := hL
    obtain ⟨dP, lP, aP, kP, c1, c2, c3⟩ := hP
    have a1 := nl9 _ _ (fun _ z => by cases z) a1
    have b1 := nl9 _ _ (fun _ z => by cases z) b1
    have c1 := nl9 _ _ (fun _ z => by cases z) c1
    have a3 := nl9.sqt a3
    have a4 := nl9.sqt a4
    have b4 := nl9.sqt b4
    have c2 := nl9.sqt c2
    have c3 := nl9.sqt c3
    refine ⟨_, rfl, pS, _, dS, _, _, rfl, a1, T.clM, T.nMR, stf_r _ _ _ _ _, rS, _, rfl, .inr a3, rfl, _, rfl, ?_⟩
    refine if_no (by rw [l1]; rfl) ?_
    refine ⟨_, rfl, pS, _, dS, _, _, rfl, a1, T.clM, T.nMG, stf_g _ _ _ _ _, gS, _, rfl, .inr a4, rfl, _, rfl, ?_⟩
    refine if_no (by rw [l2]; rfl) ?_
    refine ⟨_, rfl, pL, _, dL, _, _, rfl, b1, T.clL, T.nSt, lp_tt _ _ _ _ _, st, _, rfl, .inr b4, rfl, _, rfl, ?_⟩
    refine if_no (by rw [List.length_replicate]; rfl) ?_
    refine ⟨_, rfl, pS, _, dS, _, _, rfl, a1, T.clM, T.nMR, stf_r _ _ _ _ _, _, rfl, pS, _, dS, _, _, rfl, a1, T.clM, T.nMG, stf_g _ _ _ _ _, _, rfl, pL, _, dL, _, _, rfl, b1, T.clL, T.nSt, lp_tt _ _ _ _ _, _, rfl, pP, _, dP, _, _, rfl, c1, T.clP, T.nPL, prf_l _ _ _, _, rfl, pP, _, dP, _, _, rfl, c1, T.clP, T.nPA, prf_a _ _ _, sz5, fun t5 ht5 => ?_⟩
    refine normG (σ' := [some v, some (.ref p1), some (.ref p2), some (.ref D1), some (.ref D2), none, some (.ref pS), some (.ref D3), some (.ref pL), some (.ref D4), some (.ref pP), v11, some (.ref t5)]) rfl ?_
    obtain ⟨Hd, eHd⟩ : ∃ L, L = upd Hc t5 (.lst [.ref rS, .ref gS, .ref st, .ref lP, .ref aP]) := ⟨_, rfl⟩
    have s5' : Same Hc Hd := by rw [eHd]; exact Same.new _ (Same.refl _) ht5
    have hT5 : Hd t5 = some (.lst [.ref rS, .ref gS, .ref st, .ref lP, .ref aP]) := by rw [eHd]; exact upd_same
    rw [← eHd]
    refine ⟨_, rfl, t5, rfl, ⟨_, SqL.of hT5⟩, fun D hD => ?_⟩
    have ty5 : ∀ (Hx : Hp), Same Hd Hx → ∀ x ∈ ([.ref rS, .ref gS, .ref st, .ref lP, .ref aP] : List V), TyX K Hx x (.type "tuple") := fun Hx sx x hx => by
      simp only [List.mem_cons, List.not_mem_nil, or_false] at hx
      have sx := s5'.trans sx
      rcases hx with rfl | rfl | rfl | rfl | rfl
      · exact ty_tup (SqT.same a3 sx)
      · exact ty_tup (SqT.same a4 sx)
      · exact ty_tup (SqT.same b4 sx)
      · exact ty_tup (SqT.same c2 sx)
      · exact ty_tup (SqT.same c3 sx)
    refine lc_list (xs := [.ref rS, .ref gS, .ref st, .ref lP, .ref aP]) (fun i Hx => Hx D = some (.lst ((List.replicate i true).map V.bl)) ∧ Same Hd Hx) ⟨upd_same, Same.new _ (Same.refl _) hD⟩ (fun i Hx _ z => SqL.of (z.2 _ _ hT5)) ?_ ?_
    · rintro i x Hx hx ⟨hDx, sx⟩
      refine ⟨rfl, yes_of ?_⟩
      have i5 : i < 5 := (List.getElem?_eq_some_iff.mp hx).1
      refine ⟨_, rfl, _, _, _, _, _, rfl, .ty _, ty5 Hx sx x (List.mem_of_getElem? hx), ktt, _, hDx, ?_, ?_, same_upd sx hD⟩
      · have := sz20
        rw [List.length_map, List.length_replicate]
        omega
      · rw [upd_same, List.replicate_succ', List.map_append]
        rfl
    rintro Hx ⟨hDx, sx⟩
    refine ⟨D, _, rfl, SqL.of hDx, ?_⟩
    refine ⟨_, rfl, if_no rfl ?_⟩
    have sx2 := s5'.trans sx
    have c1 := sx2 _ _ c1
    have b1 := sx2 _ _ b1
    have a1 := sx2 _ _ a1
    refine ⟨_, rfl, pP, _, dP, _, _, rfl, c1, T.clP, T.nPL, prf_l _ _ _, lP, _, rfl, .inr (SqT.same c2 sx2), rfl, _, rfl, ?_⟩
    refine if_no (by rw [List.length_replicate]; rfl) ?_
    refine ⟨_, rfl, pP, _, dP, _, _, rfl, c1, T.clP, T.nPA, prf_a _ _ _, sz2, fun t6 ht6 => ?_⟩
    have s6' := Same.new (.tup [.str "a", .str "b"]) (Same.refl Hx) ht6
    refine ⟨_, _, dp_ab (SqT.same (SqT.same c3 sx2) s6'), dp_ab (SqT.of upd_same), ab_shaped, ab_shaped, ?_⟩
    rw [SeqAt.eqv_refl _ (SeqAt.canLay_of_shaped ab_shaped)]
    have c1 := s6' _ _ c1
    have b1 := s6' _ _ b1
    have a1 := s6' _ _ a1
    refine ⟨_, rfl, if_yes rfl ?_⟩
    refine ⟨_, rfl, pL, _, dL, _, _, rfl, b1, T.clL, T.nSp, lp_st _ _ _ _ _, rfl, _, rfl, if_yes rfl ?_⟩
    refine ⟨_, rfl, pL, _, dL, _, _, rfl, b1, T.clL, T.nDn, lp_dn _ _ _ _ _, _, _, rfl, rfl, _, rfl, if_yes rfl ?_⟩
    refine ⟨_, rfl, pS, _, dS, _, _, rfl, a1, T.clM, T.nMK, stf_k _ _ _ _ _, rfl, ?_⟩
    exact k _ (sm.trans (sx2.trans s6'))
end
end K23

set_option maxHeartbeats 4000000
namespace K23
open PySem PySem.Spec PyProof.Rows L2 Z
def spLaw (K : PySem.W.Frag) : Sp := fun vs H Q _ => ∃ (a : Addr) (ns : List Int), vs = [.ref a] ∧ SqL K H a (ns.map V.int) ∧ ns.length ≤ 63 ∧ ∀ H', Q (.bl true) H'
def odds : List Str := ["", "below", "n", "mod", "abcdefghi", "aB", "a1", "a b", "a_", "Z"]
theorem sz7 : 7 ≤ sizeLine := by show 7 ≤ sizeLine; decide
theorem sz6 : 6 ≤ sizeLine := by show 6 ≤ sizeLine; decide
theorem odds_bad : ∀ y ∈ odds, isName y = false ∧ y.length ≤ 1000 ∧ PyData.strOk y = true := by decide +kernel
theorem bnds_few : ∀ b ∈ bnds, b.2.1 ≤ b.2.2 ∧ b.2.2 - b.2.1 < 100000 := by decide +kernel
theorem no3 {j : Nat} (h : inV (.int j) [.int 4, .int 15, .int 18] = false) : j ≠ 4 ∧ j ≠ 15 ∧ j ≠ 18 := by
  refine ⟨fun z => ?_, fun z => ?_, fun z => ?_⟩ <;> subst z <;> revert h <;> decide +kernel
theorem words15 : ∀ j : Nat, j < 15 → SeqAt.shaped (.tuple ((dueV (dueE j)).map fun v => match v with | .str x => .str x | .int i => .int i | _ => .none)) = true := by decide +kernel
theorem one_shaped {x : Str} (e : PyData.strOk x = true) : SeqAt.shaped (.tuple [.str x]) = true := by simp [SeqAt.shaped, PyData.canLay0, PyData.canLayAll0, PyData.depth, PyData.depthAll, e]
theorem dp1 {K : PySem.W.Frag} {H : Hp} {t : Addr} {x : Str} (h : H t = some (.tup [.str x])) : Dp K H (.ref t) (.tuple [.str x]) := .tup (SqT.of h) (.cons (.str _) .nil)
def dueD (j : Nat) : PyData := .tuple ((dueV (dueE j)).map fun v => match v with | .str x => .str x | .int i => .int i | _ => .none)
theorem dp_due {K : PySem.W.Frag} {H : Hp} {t : Addr} {j : Nat} (h : H t = some (.tup (dueV (dueE j)))) : Dp K H (.ref t) (dueD j) := by
  refine .tup (SqT.of h) ?_
  cases dueE j with
  | num w v => exact .cons (.str _) (.cons (.int _) .nil)
  | many w m l => exact .cons (.str _) (.cons (.int _) (.cons (.int _) .nil))
  | name x => exact .cons (.str _) .nil
theorem atI_int {j : Nat} {xs : List V} {v : V} {d : Int} (e : d = (j : Int)) (h : xs[j]? = some v) : atI xs d = some v := by
  subst e
  exact atI_nat h
section
variable {P : Program} {w : World} {K : PySem.W.Frag} {mg : Str → Option Value} {base : Heap}
theorem sc_law : FnScope ["_law_script", "_law_pen_here", "_law_turn", "_law_way", "_law_least", "_law_most", "_law_some", "_law_number", "_law_name_here", "_law_odd", "_law_due"] ["_law_script"] (defScope s_law) := ⟨rfl, rfl, rfl, by decide +kernel, rfl, by decide +kernel, by decide +kernel⟩
theorem ok_law {f : Addr} {fd : FuncData} (F : FnP K "law" s_law f fd) (T : LwTx K mg) (dPen : Dn P w K mg base 1 "_law_pen" ["_law_script"] (spPen K)) (dDraw : Dn P w K mg base 1 "_law_draw" ["_law_pen_here", "_law_many"] spDraw) (dBounds : Dn P w K mg base 1 "_law_bounds" [] spBounds)
    (dBetween : Dn P w K mg base 2 "_law_between" ["_law_pen_here", "_law_least", "_law_most"] spBetween) (dFar : Dn P w K mg base 3 "_law_far" ["_law_pen_here"] spFar) (dName : Dn P w K mg base 2 "_law_name" ["_law_pen_here"] spName) (dNumR : Dn P w K mg base 10 "_law_number_right" ["_law_way", "_law_number"] (spNumR K))
    (dNameT : Dn P w K mg base 9 "_law_name_told" ["_law_name_here", "_law_way"] spNameT) (dFirst : Dn P w K mg base 10 "_law_first_told" ["_law_way"] spFirst) (dCopies : Dn P w K mg base 10 "_law_copies" ["_law_pen_here"] spCopies) : FnOk P w K mg base CX0 11 f fd ["_law_script"] (spLaw K) := by
  refine F.ok sc_law (fun vs H Q E h => ?_) (fun cdv A outer s H vs Q E hr h => ?_)
  · obtain ⟨a, ns, rfl, _⟩ := h
    rfl
  · obtain ⟨sc, ns, rfl, hS, hl, k⟩ := h
    refine ⟨_, PSs.nox (pss_cons (ps_set (i := 1) sc_law.nd rfl (Or.inl rfl) (pe_dn dPen hr (pa_cons (pv 0) pa_nil)))
      (pss_cons (ps_for PassesOwn.never rfl (pi_range1 (by rfl) T.range (pa_cons pe_int pa_nil)) (pg_name (i := 2) sc_law.nd rfl (.inl rfl)) (pss_cons (ps_set (i := 3) sc_law.nd rfl (Or.inl rfl) (pe_dn dDraw hr (pa_cons (pv 1) (pa_cons pe_int pa_nil))))
      (pss_cons (ps_asg (pe_slice sl_tup (pe_ix ix_list (pe_dn0 dBounds hr) (pv 3) (fun _ _ => rfl)) (po_some pe_int) po_none) (pg_tup (by rfl) (pgs_cons (pg_name (i := 4) sc_law.nd rfl (.inl rfl)) (pgs_cons (pg_name (i := 5) sc_law.nd rfl (.inl rfl)) pgs_nil))))
      (pss_cons (ps_set (i := 6) sc_law.nd rfl (Or.inl rfl) (pe_lst (pa_cons (pv 4) (pa_cons (pv 5) (pa_cons (pe_op op_sub (pv 4) pe_int) (pa_cons (pe_op op_add (pv 5) pe_int) (pa_cons (pe_dn dBetween hr (pa_cons (pv 1) (pa_cons (pv 4) (pa_cons (pv 5) pa_nil)))) (pa_cons (pe_op op_add (pe_op op_add (pv 5) pe_int) (pe_dn dFar hr (pa_cons (pv 1) pa_nil))) pa_nil))))))))
      (pss_cons (ps_set (i := 7) sc_law.nd rfl (Or.inl rfl) (pe_ix ix_list (pv 6) (pe_dn dDraw hr (pa_cons (pv 1) (pa_cons pe_int pa_nil))) (fun _ _ => rfl)))
      (pss_one (ps_if (pt_not (pt_val (pe_dn dNumR hr (pa_cons (pv 3) (pa_cons (pe_ifExp (pt_cmpR op_in_seq (pv 3) (pe_tup (pa_cons pe_int (pa_cons pe_int (pa_cons pe_int pa_nil)))) (by with_unfolding_all rfl)) (pe_callB (call_max2 rfl) (by rfl) T.max (by decide +kernel) (pa_cons pe_int (pa_cons (pv 7) pa_nil))) (pv 7)) pa_nil))))) (pss_one (ps_ret pe_bl)) pss_nil)))))))
      (pss_cons (ps_if (pt_not (pt_val (pe_dn dNumR hr (pa_cons pe_int (pa_cons pe_int pa_nil))))) (pss_one (ps_ret pe_bl)) pss_nil)
      (pss_cons (ps_par (i := 8) (j := 9) (by rfl) sc_law.nd rfl rfl (by decide) rfl rfl (pa_cons (pe_dn dName hr (pa_cons (pv 1) pa_nil)) (pa_cons (pe_ix ix_list (pe_lst (pa_cons pe_str (pa_cons pe_str (pa_cons pe_str (pa_cons pe_str (pa_cons pe_str (pa_cons pe_str (pa_cons pe_str (pa_cons pe_str (pa_cons pe_str (pa_cons pe_str pa_nil))))))))))) (pe_dn dDraw hr (pa_cons (pv 1) (pa_cons pe_int pa_nil))) (fun _ _ => rfl)) pa_nil)) (by rfl))
      (pss_cons (ps_set (i := 3) sc_law.nd rfl (Or.inl rfl) (pe_dn dDraw hr (pa_cons (pv 1) (pa_cons pe_int pa_nil))))
      (pss_cons (ps_if (PW.pt (pw_or (pt_cmpR op_ne (pe_dn dNameT hr (pa_cons (pv 8) (pa_cons (pv 3) pa_nil))) (pv 8) (nomark _)) (pw_or1 (pt_cmpR (op_neD hr.units) (pe_dn dNameT hr (pa_cons (pv 9) (pa_cons (pv 3) pa_nil))) (pe_tup (pa_cons (pv 9) pa_nil)) (nomark _))))) (pss_one (ps_ret pe_bl)) pss_nil)
      (pss_cons (ps_set (i := 10) sc_law.nd rfl (Or.inl rfl) (pe_lst (pa_cons (pe_tup (pa_cons pe_str (pa_cons pe_int (pa_cons pe_int pa_nil)))) (pa_cons (pe_tup (pa_cons pe_str (pa_cons pe_int (pa_cons pe_int pa_nil)))) (pa_cons (pe_tup (pa_cons pe_str pa_nil)) (pa_cons (pe_tup (pa_cons pe_str (pa_cons pe_int pa_nil))) (pa_cons (pe_tup (pa_cons pe_str (pa_cons pe_int pa_nil))) (pa_cons (pe_tup (pa_cons pe_str (pa_cons pe_int (pa_cons pe_int pa_nil)))) pa_nil))))))))
      (pss_cons (ps_set (i := 10) sc_law.nd rfl (Or.inl rfl) (pe_op op_cat (pv 10) (pe_lst (pa_cons (pe_tup (pa_cons pe_str (pa_cons pe_int pa_nil))) (pa_cons (pe_tup (pa_cons pe_str (pa_cons pe_int pa_nil))) (pa_cons (pe_tup (pa_cons pe_str (pa_cons pe_int pa_nil))) (pa_cons (pe_tup (pa_cons pe_str (pa_cons pe_int (pa_cons pe_int pa_nil)))) (pa_cons (pe_tup (pa_cons pe_str (pa_cons pe_int pa_nil))) (pa_cons (pe_tup (pa_cons pe_str pa_nil)) (pa_cons (pe_tup (pa_cons pe_str (pa_cons pe_int pa_nil))) pa_nil))))))))))
      (pss_cons (ps_set (i := 10) sc_law.nd rfl (Or.inl rfl) (pe_op op_cat (pv 10) (pe_lst (pa_cons (pe_tup (pa_cons pe_str (pa_cons pe_int pa_nil))) (pa_cons (pe_tup (pa_cons pe_str (pa_cons pe_int pa_nil))) pa_nil)))))
      (pss_cons (ps_set (i := 3) sc_law.nd rfl (Or.inl rfl) (pe_dn dDraw hr (pa_cons (pv 1) (pa_cons pe_int pa_nil))))
      (pss_one (ps_ret (pe_and (pe_cmpR (op_eqD hr.units) (pe_dn dFirst hr (pa_cons (pv 3) pa_nil)) (pe_ix ix_list (pv 10) (pv 3) (fun _ _ => rfl)) (nomark _)) (pe_one (pe_dn dCopies hr (pa_cons (pv 1) pa_nil)))))))))))))))), ?_⟩
    refine ⟨_, rfl, sc, ns, rfl, hS, hl, fun H1 p s1 hp hP => ?_⟩
    refine normG (σ' := [some (.ref sc), some (.ref p), none, none, none, none, none, none, none, none, none]) rfl ?_
    refine ⟨3, rfl, by omega, by omega, ?_⟩
    rw [show Int.toNat 3 = 3 from rfl]
    refine for_range (lo := 0) (n := 3) (fun i σ H' => ∃ v2 v3 v4 v5 v6 v7 : Option V, σ = [some (.ref sc), some (.ref p), v2, v3, v4, v5, v6, v7, none, none, none] ∧ Pen H' p (25 * i)) ⟨_, _, _, _, _, _, rfl, hP⟩ ?_ ?_
    · rintro i σ H3 hi ⟨v2, v3, v4, v5, v6, v7, rfl, hP3⟩
      refine normG (σ' := [some (.ref sc), some (.ref p), some (.int (0 + (i : Int))), v3, v4, v5, v6, v7, none, none, none]) rfl ?_
      refine ⟨_, rfl, p, 21, 25 * i, rfl, by decide, by decide, by omega, hP3, fun H4 d d0 d1 hP4 _ => ?_⟩
      obtain ⟨j, rfl⟩ : ∃ j : Nat, d = (j : Int) := ⟨d.toNat, by omega⟩
      have hj : j < 21 := by omega
      refine normG (σ' := [some (.ref sc), some (.ref p), some (.int (0 + (i : Int))), some (.int j), v4, v5, v6, v7, none, none, none]) rfl ?_
      refine ⟨rfl, fun lb H5 s5 hB => ?_⟩
      obtain ⟨xs, t, ⟨x, lo, hi'⟩, hlb, hx, hb, ht⟩ := bnd_at hB hj
      have few := bnds_few _ (List.mem_of_getElem? hb)
      refine ⟨_, rfl, lb, xs, j, _, rfl, rfl, SqL.of hlb, atI_nat hx, ?_⟩
      refine ⟨_, rfl, t, _, rfl, SqT.of ht, by simp [HT.sIx], fun tp htp => ?_⟩
      have hP6 := (hP4.same s5).same (Same.new (.tup (cutV [.str x, .int lo, .int hi'] (some 1) none)) (Same.refl H5) htp)
      refine ⟨tp, _, rfl, SqT.of upd_same, rfl, _, _, rfl, _, _, rfl, rfl, ?_⟩
      obtain ⟨H6, e6⟩ : ∃ L, L = upd H5 tp (.tup (cutV [.str x, .int lo, .int hi'] (some 1) none)) := ⟨_, rfl⟩
      rw [← e6] at hP6
      refine norm (N := fun σ _ => _) (σ' := [some (.ref sc), some (.ref p), some (.int (0 + (i : Int))), some (.int j), some (.int lo), some (.int hi'), v6, v7, none, none, none]) rfl ?_
      rw [← e6]
      dsimp only
      refine ⟨_, rfl, _, rfl, _, rfl, _, _, rfl, rfl, _, rfl, _, _, rfl, rfl, _, rfl, _, rfl, _, rfl, p, lo, hi', 25 * i + 1, rfl, few.1, few.2, by omega, hP6, fun H7 y y0 y1 hP7 _ => ?_⟩
      refine ⟨_, rfl, _, _, rfl, rfl, _, rfl, p, 25 * i + 1 + 2, rfl, by omega, hP7, fun H8 z z0 hP8 _ => ⟨_, _, rfl, rfl, sz6, fun l hl8 => ?_⟩⟩
      have hP9 := hP8.same (Same.new (.lst [.int lo, .int hi', .int (lo - 1), .int (hi' + 1), .int y, .int (hi' + 1 + z)]) (Same.refl H8) hl8)
      have hl9 : (upd H8 l (.lst [.int lo, .int hi', .int (lo - 1), .int (hi' + 1), .int y, .int (hi' + 1 + z)])) l = _ := upd_same
      obtain ⟨H9, e9⟩ : ∃ L, L = upd H8 l (.lst [.int lo, .int hi', .int (lo - 1), .int (hi' + 1), .int y, .int (hi' + 1 + z)]) := ⟨_, rfl⟩
      rw [← e9] at hP9 hl9
      refine normG (σ' := [some (.ref sc), some (.ref p), some (.int (0 + (i : Int))), some (.int j), some (.int lo), some (.int hi'), some (.ref l), v7, none, none, none]) rfl ?_
      rw [← e9]
      refine ⟨_, rfl, _, rfl, p, 6, 25 * i + 1 + 2 + 21, rfl, by decide, by decide, by omega, hP9, fun H10 e e0 e1 hP10 k10 => ?_⟩
      have hl10 := k10 _ _ (hP9.ne hl9 fun _ z => by cases z) hl9
      obtain ⟨q, rfl⟩ : ∃ q : Nat, e = (q : Int) := ⟨e.toNat, by omega⟩
      obtain ⟨m, hm⟩ : ∃ m : Int, ([.int lo, .int hi', .int (lo - 1), .int (hi' + 1), .int y, .int (hi' + 1 + z)] : List V)[q]? = some (.int m) := by
        have q6 : q < 6 := by omega
        match q, q6 with
        | 0, _ => exact ⟨_, rfl⟩
        | 1, _ => exact ⟨_, rfl⟩
        | 2, _ => exact ⟨_, rfl⟩
        | 3, _ => exact ⟨_, rfl⟩
        | 4, _ => exact ⟨_, rfl⟩
        | 5, _ => exact ⟨_, rfl⟩
      refine ⟨l, _, _, _, rfl, rfl, SqL.of hl10, atI_nat hm, ?_⟩
      refine normG (σ' := [some (.ref sc), some (.ref p), some (.int (0 + (i : Int))), some (.int j), some (.int lo), some (.int hi'), some (.ref l), some (.int m), none, none, none]) rfl ?_
      refine ⟨_, rfl, _, rfl, sz3, fun t3 ht3 => ?_⟩
      have s11 := Same.new (.tup [.int 4, .int 15, .int 18]) (Same.refl H10) ht3
      have hP11 := hP10.same s11
      refine ⟨t3, _, rfl, .inr (SqT.of upd_same), rfl, rfl, ?_⟩
      refine ⟨_, rfl, ite2 (fun _ => ?_) (fun c => ?_)⟩
      · exact ⟨_, rfl, _, _, rfl, j, _, rfl, hj, fun _ => by split <;> omega, fun _ => by split <;> omega, fun _ => by split <;> omega, fun H12 s12 => ⟨_, rfl, if_no rfl ⟨_, _, _, _, _, _, rfl, (hP11.same s12).mono (by omega)⟩⟩⟩
      · obtain ⟨n1, n2, n3⟩ := no3 ((Bool.not_eq_true _).mp c)
        exact ⟨_, rfl, j, _, rfl, hj, fun z => absurd z n1, fun z => absurd z n2, fun z => absurd z n3, fun H12 s12 => ⟨_, rfl, if_no rfl ⟨_, _, _, _, _, _, rfl, (hP11.same s12).mono (by omega)⟩⟩⟩
    · rintro σ H3 ⟨v2, v3, v4, v5, v6, v7, rfl, hP3⟩
      refine ⟨0, 0, rfl, by decide, (fun z => by cases z), (fun z => by cases z), (fun z => by cases z), fun H4 s4 => ⟨_, rfl, if_no rfl ?_⟩⟩
      have hP4 := hP3.same s4
      refine ⟨_, rfl, p, 75, rfl, by decide, hP4, fun H5 x hx hxl hP5 _ => ⟨sz10, fun l hl => ?_⟩⟩
      have hP6 := hP5.same (Same.new (.lst (odds.map V.str)) (Same.refl H5) hl)
      have hl6 : (upd H5 l (.lst (odds.map V.str))) l = _ := upd_same
      refine ⟨_, rfl, p, 10, 84, rfl, by decide, by decide, by decide, hP6, fun H7 d d0 d1 hP7 k7 => ?_⟩
      have hl7 := k7 _ _ (hP6.ne hl6 fun _ z => by cases z) hl6
      obtain ⟨q, rfl⟩ : ∃ q : Nat, d = (q : Int) := ⟨d.toNat, by omega⟩
      have hq : q < odds.length := by
        have : odds.length = 10 := rfl
        omega
      have hy : odds[q] ∈ odds := List.getElem_mem hq
      have hy2 : (odds.map V.str)[q]? = some (.str odds[q]) := by rw [List.getElem?_map, List.getElem?_eq_getElem hq]; rfl
      obtain ⟨y, ey⟩ : ∃ y, y = odds[q] := ⟨_, rfl⟩
      rw [← ey] at hy hy2
      obtain ⟨o1, o2, o3⟩ := odds_bad y hy
      refine ⟨l, _, _, _, rfl, rfl, SqL.of hl7, atI_nat hy2, _, _, rfl, ?_⟩
      refine norm (N := fun σ _ => _) (σ' := [some (.ref sc), some (.ref p), v2, v3, v4, v5, v6, v7, some (.str x), some (.str y), none]) rfl ?_
      dsimp only
      refine ⟨_, rfl, p, 2, 85, rfl, by decide, by decide, by decide, hP7, fun H8 d d0 d1 hP8 _ => ?_⟩
      refine normG (σ' := [some (.ref sc), some (.ref p), v2, some (.int d), v4, v5, v6, v7, some (.str x), some (.str y), none]) rfl ?_
      refine ⟨_, rfl, _, rfl, x, d, rfl, Nat.le_trans hxl (by decide), fun _ H9 s9 => ⟨_, rfl, rfl, _, rfl, if_no (by simp) ?_⟩, fun z => absurd (hx.symm.trans z) (by decide)⟩
      have hP9 := hP8.same s9
      refine ⟨_, rfl, _, rfl, y, d, rfl, o2, fun z => absurd (o1.symm.trans z) (by decide), fun _ t10 H10 s10 ht10 => ?_⟩
      have hP10 := hP9.same s10
      refine ⟨_, rfl, sz1, fun t11 ht11 => ⟨_, _, dp1 (at_upd _ ht10 ht11), dp1 upd_same, one_shaped o3, one_shaped o3, ?_⟩⟩
      rw [SeqAt.eqv_refl _ (SeqAt.canLay_of_shaped (one_shaped o3))]
      have hP11 := hP10.same (Same.new (.tup [.str y]) (Same.refl H10) ht11)
      refine ⟨_, rfl, if_no rfl ?_⟩
      obtain ⟨G0, e0'⟩ : ∃ L, L = upd H10 t11 (.tup [.str y]) := ⟨_, rfl⟩
      rw [← e0'] at hP11 ⊢
      have sG : Same G0 G0 := Same.refl G0
      refine ⟨sz3, fun w0 hw0 => ?_⟩
      obtain ⟨G1, e1⟩ : ∃ L, L = upd G0 w0 (.tup [.str "reads", .int 4, .int 3]) := ⟨_, rfl⟩
      rw [← e1]
      have f1_w0 : G1 w0 = some (.tup [.str "reads", .int 4, .int 3]) := by rw [e1]; exact upd_same
      have s1 : Same G0 G1 := by rw [e1]; exact Same.new _ sG hw0
      refine ⟨sz3, fun w1 hw1 => ?_⟩
      obtain ⟨G2, e2⟩ : ∃ L, L = upd G1 w1 (.tup [.str "conditions", .int 4, .int 3]) := ⟨_, rfl⟩
      rw [← e2]
      have f2_w0 : G2 w0 = some (.tup [.str "reads", .int 4, .int 3]) := by rw [e2]; exact at_upd _ f1_w0 hw1
      have f2_w1 : G2 w1 = some (.tup [.str "conditions", .int 4, .int 3]) := by rw [e2]; exact upd_same
      have s2 : Same G0 G2 := by rw [e2]; exact Same.new _ s1 hw1
      refine ⟨sz1, fun w2 hw2 => ?_⟩
      obtain ⟨G3, e3⟩ : ∃ L, L = upd G2 w2 (.tup [.str "A"]) := ⟨_, rfl⟩
      rw [← e3]
      have f3_w0 : G3 w0 = some (.tup [.str "reads", .int 4, .int 3]) := by rw [e3]; exact at_upd _ f2_w0 hw2
      have f3_w1 : G3 w1 = some (.tup [.str "conditions", .int 4, .int 3]) := by rw [e3]; exact at_upd _ f2_w1 hw2
      have f3_w2 : G3 w2 = some (.tup [.str "A"]) := by rw [e3]; exact upd_same
      have s3 : Same G0 G3 := by rw [e3]; exact Same.new _ s2 hw2
      refine ⟨sz2, fun w3 hw3 => ?_⟩
      obtain ⟨G4, e4⟩ : ∃ L, L = upd G3 w3 (.tup [.str "n", .int 13]) := ⟨_, rfl⟩
      rw [← e4]
      have f4_w0 : G4 w0 = some (.tup [.str "reads", .int 4, .int 3]) := by rw [e4]; exact at_upd _ f3_w0 hw3
      have f4_w1 : G4 w1 = some (.tup [.str "conditions", .int 4, .int 3]) := by rw [e4]; exact at_upd _ f3_w1 hw3
      have f4_w2 : G4 w2 = some (.tup [.str "A"]) := by rw [e4]; exact at_upd _ f3_w2 hw3
      have f4_w3 : G4 w3 = some (.tup [.str "n", .int 13]) := by rw [e4]; exact upd_same
      have s4 : Same G0 G4 := by rw [e4]; exact Same.new _ s3 hw3
      refine ⟨sz2, fun w4 hw4 => ?_⟩
      obtain ⟨G5, e5⟩ : ∃ L, L = upd G4 w4 (.tup [.str "i", .int 13]) := ⟨_, rfl⟩
      rw [← e5]
      have f5_w0 : G5 w0 = some (.tup [.str "reads", .int 4, .int 3]) := by rw [e5]; exact at_upd _ f4_w0 hw4
      have f5_w1 : G5 w1 = some (.tup [.str "conditions", .int 4, .int 3]) := by rw [e5]; exact at_upd _ f4_w1 hw4
      have f5_w2 : G5 w2 = some (.tup [.str "A"]) := by rw [e5]; exact at_upd _ f4_w2 hw4
      have f5_w3 : G5 w3 = some (.tup [.str "n", .int 13]) := by rw [e5]; exact at_upd _ f4_w3 hw4
      have f5_w4 : G5 w4 = some (.tup [.str "i", .int 13]) := by rw [e5]; exact upd_same
      have s5 : Same G0 G5 := by rw [e5]; exact Same.new _ s4 hw4
      refine ⟨sz3, fun w5 hw5 => ?_⟩
      obtain ⟨G6, e6⟩ : ∃ L, L = upd G5 w5 (.tup [.str "statements", .int 17, .int 16]) := ⟨_, rfl⟩
      rw [← e6]
      have f6_w0 : G6 w0 = some (.tup [.str "reads", .int 4, .int 3]) := by rw [e6]; exact at_upd _ f5_w0 hw5
      have f6_w1 : G6 w1 = some (.tup [.str "conditions", .int 4, .int 3]) := by rw [e6]; exact at_upd _ f5_w1 hw5
      have f6_w2 : G6 w2 = some (.tup [.str "A"]) := by rw [e6]; exact at_upd _ f5_w2 hw5
      have f6_w3 : G6 w3 = some (.tup [.str "n", .int 13]) := by rw [e6]; exact at_upd _ f5_w3 hw5
      have f6_w4 : G6 w4 = some (.tup [.str "i", .int 13]) := by rw [e6]; exact at_upd _ f5_w4 hw5
      have f6_w5 : G6 w5 = some (.tup [.str "statements", .int 17, .int 16]) := by rw [e6]; exact upd_same
      have s6 : Same G0 G6 := by rw [e6]; exact Same.new _ s5 hw5
      refine ⟨sz6, fun l1 hl1 => ?_⟩
      obtain ⟨G7, e7⟩ : ∃ L, L = upd G6 l1 (.lst [.ref w0, .ref w1, .ref w2, .ref w3, .ref w4, .ref w5]) := ⟨_, rfl⟩
      rw [← e7]
      have f7_w0 : G7 w0 = some (.tup [.str "reads", .int 4, .int 3]) := by rw [e7]; exact at_upd _ f6_w0 hl1
      have f7_w1 : G7 w1 = some (.tup [.str "conditions", .int 4, .int 3]) := by rw [e7]; exact at_upd _ f6_w1 hl1
      have f7_w2 : G7 w2 = some (.tup [.str "A"]) := by rw [e7]; exact at_upd _ f6_w2 hl1
      have f7_w3 : G7 w3 = some (.tup [.str "n", .int 13]) := by rw [e7]; exact at_upd _ f6_w3 hl1
      have f7_w4 : G7 w4 = some (.tup [.str "i", .int 13]) := by rw [e7]; exact at_upd _ f6_w4 hl1
      have f7_w5 : G7 w5 = some (.tup [.str "statements", .int 17, .int 16]) := by rw [e7]; exact at_upd _ f6_w5 hl1
      have f7_l1 : G7 l1 = some (.lst [.ref w0, .ref w1, .ref w2, .ref w3, .ref w4, .ref w5]) := by rw [e7]; exact upd_same
      have s7 : Same G0 G7 := by rw [e7]; exact Same.new _ s6 hl1
      refine normG (σ' := [some (.ref sc), some (.ref p), v2, some (.int d), v4, v5, v6, v7, some (.str x), some (.str y), some (.ref l1)]) rfl ?_
      refine ⟨_, rfl, sz2, fun w6 hw6 => ?_⟩
      obtain ⟨G8, e8⟩ : ∃ L, L = upd G7 w6 (.tup [.str "step", .int 17]) := ⟨_, rfl⟩
      rw [← e8]
      have f8_w0 : G8 w0 = some (.tup [.str "reads", .int 4, .int 3]) := by rw [e8]; exact at_upd _ f7_w0 hw6
      have f8_w1 : G8 w1 = some (.tup [.str "conditions", .int 4, .int 3]) := by rw [e8]; exact at_upd _ f7_w1 hw6
      have f8_w2 : G8 w2 = some (.tup [.str "A"]) := by rw [e8]; exact at_upd _ f7_w2 hw6
      have f8_w3 : G8 w3 = some (.tup [.str "n", .int 13]) := by rw [e8]; exact at_upd _ f7_w3 hw6
      have f8_w4 : G8 w4 = some (.tup [.str "i", .int 13]) := by rw [e8]; exact at_upd _ f7_w4 hw6
      have f8_w5 : G8 w5 = some (.tup [.str "statements", .int 17, .int 16]) := by rw [e8]; exact at_upd _ f7_w5 hw6
      have f8_l1 : G8 l1 = some (.lst [.ref w0, .ref w1, .ref w2, .ref w3, .ref w4, .ref w5]) := by rw [e8]; exact at_upd _ f7_l1 hw6
      have f8_w6 : G8 w6 = some (.tup [.str "step", .int 17]) := by rw [e8]; exact upd_same
      have s8 : Same G0 G8 := by rw [e8]; exact Same.new _ s7 hw6
      refine ⟨sz2, fun w7 hw7 => ?_⟩
      obtain ⟨G9, e9⟩ : ∃ L, L = upd G8 w7 (.tup [.str "n", .int 4]) := ⟨_, rfl⟩
      rw [← e9]
      have f9_w0 : G9 w0 = some (.tup [.str "reads", .int 4, .int 3]) := by rw [e9]; exact at_upd _ f8_w0 hw7
      have f9_w1 : G9 w1 = some (.tup [.str "conditions", .int 4, .int 3]) := by rw [e9]; exact at_upd _ f8_w1 hw7
      have f9_w2 : G9 w2 = some (.tup [.str "A"]) := by rw [e9]; exact at_upd _ f8_w2 hw7
      have f9_w3 : G9 w3 = some (.tup [.str "n", .int 13]) := by rw [e9]; exact at_upd _ f8_w3 hw7
      have f9_w4 : G9 w4 = some (.tup [.str "i", .int 13]) := by rw [e9]; exact at_upd _ f8_w4 hw7
      have f9_w5 : G9 w5 = some (.tup [.str "statements", .int 17, .int 16]) := by rw [e9]; exact at_upd _ f8_w5 hw7
      have f9_l1 : G9 l1 = some (.lst [.ref w0, .ref w1, .ref w2, .ref w3, .ref w4, .ref w5]) := by rw [e9]; exact at_upd _ f8_l1 hw7
      have f9_w6 : G9 w6 = some (.tup [.str "step", .int 17]) := by rw [e9]; exact at_upd _ f8_w6 hw7
      have f9_w7 : G9 w7 = some (.tup [.str "n", .int 4]) := by rw [e9]; exact upd_same
      have s9 : Same G0 G9 := by rw [e9]; exact Same.new _ s8 hw7
      refine ⟨sz2, fun w8 hw8 => ?_⟩
      obtain ⟨G10, e10⟩ : ∃ L, L = upd G9 w8 (.tup [.str "step", .int 2]) := ⟨_, rfl⟩
      rw [← e10]
      have f10_w0 : G10 w0 = some (.tup [.str "reads", .int 4, .int 3]) := by rw [e10]; exact at_upd _ f9_w0 hw8
      have f10_w1 : G10 w1 = some (.tup [.str "conditions", .int 4, .int 3]) := by rw [e10]; exact at_upd _ f9_w1 hw8
      have f10_w2 : G10 w2 = some (.tup [.str "A"]) := by rw [e10]; exact at_upd _ f9_w2 hw8
      have f10_w3 : G10 w3 = some (.tup [.str "n", .int 13]) := by rw [e10]; exact at_upd _ f9_w3 hw8
      have f10_w4 : G10 w4 = some (.tup [.str "i", .int 13]) := by rw [e10]; exact at_upd _ f9_w4 hw8
      have f10_w5 : G10 w5 = some (.tup [.str "statements", .int 17, .int 16]) := by rw [e10]; exact at_upd _ f9_w5 hw8
      have f10_l1 : G10 l1 = some (.lst [.ref w0, .ref w1, .ref w2, .ref w3, .ref w4, .ref w5]) := by rw [e10]; exact at_upd _ f9_l1 hw8
      have f10_w6 : G10 w6 = some (.tup [.str "step", .int 17]) := by rw [e10]; exact at_upd _ f9_w6 hw8
      have f10_w7 : G10 w7 = some (.tup [.str "n", .int 4]) := by rw [e10]; exact at_upd _ f9_w7 hw8
      have f10_w8 : G10 w8 = some (.tup [.str "step", .int 2]) := by rw [e10]; exact upd_same
      have s10 : Same G0 G10 := by rw [e10]; exact Same.new _ s9 hw8
      refine ⟨sz3, fun w9 hw9 => ?_⟩
      obtain ⟨G11, e11⟩ : ∃ L, L = upd G10 w9 (.tup [.str "loops", .int 7, .int 6]) := ⟨_, rfl⟩
      rw [← e11]
      have f11_w0 : G11 w0 = some (.tup [.str "reads", .int 4, .int 3]) := by rw [e11]; exact at_upd _ f10_w0 hw9
      have f11_w1 : G11 w1 = some (.tup [.str "conditions", .int 4, .int 3]) := by rw [e11]; exact at_upd _ f10_w1 hw9
      have f11_w2 : G11 w2 = some (.tup [.str "A"]) := by rw [e11]; exact at_upd _ f10_w2 hw9
      have f11_w3 : G11 w3 = some (.tup [.str "n", .int 13]) := by rw [e11]; exact at_upd _ f10_w3 hw9
      have f11_w4 : G11 w4 = some (.tup [.str "i", .int 13]) := by rw [e11]; exact at_upd _ f10_w4 hw9
      have f11_w5 : G11 w5 = some (.tup [.str "statements", .int 17, .int 16]) := by rw [e11]; exact at_upd _ f10_w5 hw9
      have f11_l1 : G11 l1 = some (.lst [.ref w0, .ref w1, .ref w2, .ref w3, .ref w4, .ref w5]) := by rw [e11]; exact at_upd _ f10_l1 hw9
      have f11_w6 : G11 w6 = some (.tup [.str "step", .int 17]) := by rw [e11]; exact at_upd _ f10_w6 hw9
      have f11_w7 : G11 w7 = some (.tup [.str "n", .int 4]) := by rw [e11]; exact at_upd _ f10_w7 hw9
      have f11_w8 : G11 w8 = some (.tup [.str "step", .int 2]) := by rw [e11]; exact at_upd _ f10_w8 hw9
      have f11_w9 : G11 w9 = some (.tup [.str "loops", .int 7, .int 6]) := by rw [e11]; exact upd_same
      have s11 : Same G0 G11 := by rw [e11]; exact Same.new _ s10 hw9
      refine ⟨sz2, fun w10 hw10 => ?_⟩
      obtain ⟨G12, e12⟩ : ∃ L, L = upd G11 w10 (.tup [.str "n", .int 4]) := ⟨_, rfl⟩
      rw [← e12]
      have f12_w0 : G12 w0 = some (.tup [.str "reads", .int 4, .int 3]) := by rw [e12]; exact at_upd _ f11_w0 hw10
      have f12_w1 : G12 w1 = some (.tup [.str "conditions", .int 4, .int 3]) := by rw [e12]; exact at_upd _ f11_w1 hw10
      have f12_w2 : G12 w2 = some (.tup [.str "A"]) := by rw [e12]; exact at_upd _ f11_w2 hw10
      have f12_w3 : G12 w3 = some (.tup [.str "n", .int 13]) := by rw [e12]; exact at_upd _ f11_w3 hw10
      have f12_w4 : G12 w4 = some (.tup [.str "i", .int 13]) := by rw [e12]; exact at_upd _ f11_w4 hw10
      have f12_w5 : G12 w5 = some (.tup [.str "statements", .int 17, .int 16]) := by rw [e12]; exact at_upd _ f11_w5 hw10
      have f12_l1 : G12 l1 = some (.lst [.ref w0, .ref w1, .ref w2, .ref w3, .ref w4, .ref w5]) := by rw [e12]; exact at_upd _ f11_l1 hw10
      have f12_w6 : G12 w6 = some (.tup [.str "step", .int 17]) := by rw [e12]; exact at_upd _ f11_w6 hw10
      have f12_w7 : G12 w7 = some (.tup [.str "n", .int 4]) := by rw [e12]; exact at_upd _ f11_w7 hw10
      have f12_w8 : G12 w8 = some (.tup [.str "step", .int 2]) := by rw [e12]; exact at_upd _ f11_w8 hw10
      have f12_w9 : G12 w9 = some (.tup [.str "loops", .int 7, .int 6]) := by rw [e12]; exact at_upd _ f11_w9 hw10
      have f12_w10 : G12 w10 = some (.tup [.str "n", .int 4]) := by rw [e12]; exact upd_same
      have s12 : Same G0 G12 := by rw [e12]; exact Same.new _ s11 hw10
      refine ⟨sz1, fun w11 hw11 => ?_⟩
      obtain ⟨G13, e13⟩ : ∃ L, L = upd G12 w11 (.tup [.str "A"]) := ⟨_, rfl⟩
      rw [← e13]
      have f13_w0 : G13 w0 = some (.tup [.str "reads", .int 4, .int 3]) := by rw [e13]; exact at_upd _ f12_w0 hw11
      have f13_w1 : G13 w1 = some (.tup [.str "conditions", .int 4, .int 3]) := by rw [e13]; exact at_upd _ f12_w1 hw11
      have f13_w2 : G13 w2 = some (.tup [.str "A"]) := by rw [e13]; exact at_upd _ f12_w2 hw11
      have f13_w3 : G13 w3 = some (.tup [.str "n", .int 13]) := by rw [e13]; exact at_upd _ f12_w3 hw11
      have f13_w4 : G13 w4 = some (.tup [.str "i", .int 13]) := by rw [e13]; exact at_upd _ f12_w4 hw11
      have f13_w5 : G13 w5 = some (.tup [.str "statements", .int 17, .int 16]) := by rw [e13]; exact at_upd _ f12_w5 hw11
      have f13_l1 : G13 l1 = some (.lst [.ref w0, .ref w1, .ref w2, .ref w3, .ref w4, .ref w5]) := by rw [e13]; exact at_upd _ f12_l1 hw11
      have f13_w6 : G13 w6 = some (.tup [.str "step", .int 17]) := by rw [e13]; exact at_upd _ f12_w6 hw11
      have f13_w7 : G13 w7 = some (.tup [.str "n", .int 4]) := by rw [e13]; exact at_upd _ f12_w7 hw11
      have f13_w8 : G13 w8 = some (.tup [.str "step", .int 2]) := by rw [e13]; exact at_upd _ f12_w8 hw11
      have f13_w9 : G13 w9 = some (.tup [.str "loops", .int 7, .int 6]) := by rw [e13]; exact at_upd _ f12_w9 hw11
      have f13_w10 : G13 w10 = some (.tup [.str "n", .int 4]) := by rw [e13]; exact at_upd _ f12_w10 hw11
      have f13_w11 : G13 w11 = some (.tup [.str "A"]) := by rw [e13]; exact upd_same
      have s13 : Same G0 G13 := by rw [e13]; exact Same.new _ s12 hw11
      refine ⟨sz2, fun w12 hw12 => ?_⟩
      obtain ⟨G14, e14⟩ : ∃ L, L = upd G13 w12 (.tup [.str "factor", .int 0]) := ⟨_, rfl⟩
      rw [← e14]
      have f14_w0 : G14 w0 = some (.tup [.str "reads", .int 4, .int 3]) := by rw [e14]; exact at_upd _ f13_w0 hw12
      have f14_w1 : G14 w1 = some (.tup [.str "conditions", .int 4, .int 3]) := by rw [e14]; exact at_upd _ f13_w1 hw12
      have f14_w2 : G14 w2 = some (.tup [.str "A"]) := by rw [e14]; exact at_upd _ f13_w2 hw12
      have f14_w3 : G14 w3 = some (.tup [.str "n", .int 13]) := by rw [e14]; exact at_upd _ f13_w3 hw12
      have f14_w4 : G14 w4 = some (.tup [.str "i", .int 13]) := by rw [e14]; exact at_upd _ f13_w4 hw12
      have f14_w5 : G14 w5 = some (.tup [.str "statements", .int 17, .int 16]) := by rw [e14]; exact at_upd _ f13_w5 hw12
      have f14_l1 : G14 l1 = some (.lst [.ref w0, .ref w1, .ref w2, .ref w3, .ref w4, .ref w5]) := by rw [e14]; exact at_upd _ f13_l1 hw12
      have f14_w6 : G14 w6 = some (.tup [.str "step", .int 17]) := by rw [e14]; exact at_upd _ f13_w6 hw12
      have f14_w7 : G14 w7 = some (.tup [.str "n", .int 4]) := by rw [e14]; exact at_upd _ f13_w7 hw12
      have f14_w8 : G14 w8 = some (.tup [.str "step", .int 2]) := by rw [e14]; exact at_upd _ f13_w8 hw12
      have f14_w9 : G14 w9 = some (.tup [.str "loops", .int 7, .int 6]) := by rw [e14]; exact at_upd _ f13_w9 hw12
      have f14_w10 : G14 w10 = some (.tup [.str "n", .int 4]) := by rw [e14]; exact at_upd _ f13_w10 hw12
      have f14_w11 : G14 w11 = some (.tup [.str "A"]) := by rw [e14]; exact at_upd _ f13_w11 hw12
      have f14_w12 : G14 w12 = some (.tup [.str "factor", .int 0]) := by rw [e14]; exact upd_same
      have s14 : Same G0 G14 := by rw [e14]; exact Same.new _ s13 hw12
      refine ⟨sz7, fun l2 hl2 => ?_⟩
      obtain ⟨G15, e15⟩ : ∃ L, L = upd G14 l2 (.lst [.ref w6, .ref w7, .ref w8, .ref w9, .ref w10, .ref w11, .ref w12]) := ⟨_, rfl⟩
      rw [← e15]
      have f15_w0 : G15 w0 = some (.tup [.str "reads", .int 4, .int 3]) := by rw [e15]; exact at_upd _ f14_w0 hl2
      have f15_w1 : G15 w1 = some (.tup [.str "conditions", .int 4, .int 3]) := by rw [e15]; exact at_upd _ f14_w1 hl2
      have f15_w2 : G15 w2 = some (.tup [.str "A"]) := by rw [e15]; exact at_upd _ f14_w2 hl2
      have f15_w3 : G15 w3 = some (.tup [.str "n", .int 13]) := by rw [e15]; exact at_upd _ f14_w3 hl2
      have f15_w4 : G15 w4 = some (.tup [.str "i", .int 13]) := by rw [e15]; exact at_upd _ f14_w4 hl2
      have f15_w5 : G15 w5 = some (.tup [.str "statements", .int 17, .int 16]) := by rw [e15]; exact at_upd _ f14_w5 hl2
      have f15_l1 : G15 l1 = some (.lst [.ref w0, .ref w1, .ref w2, .ref w3, .ref w4, .ref w5]) := by rw [e15]; exact at_upd _ f14_l1 hl2
      have f15_w6 : G15 w6 = some (.tup [.str "step", .int 17]) := by rw [e15]; exact at_upd _ f14_w6 hl2
      have f15_w7 : G15 w7 = some (.tup [.str "n", .int 4]) := by rw [e15]; exact at_upd _ f14_w7 hl2
      have f15_w8 : G15 w8 = some (.tup [.str "step", .int 2]) := by rw [e15]; exact at_upd _ f14_w8 hl2
      have f15_w9 : G15 w9 = some (.tup [.str "loops", .int 7, .int 6]) := by rw [e15]; exact at_upd _ f14_w9 hl2
      have f15_w10 : G15 w10 = some (.tup [.str "n", .int 4]) := by rw [e15]; exact at_upd _ f14_w10 hl2
      have f15_w11 : G15 w11 = some (.tup [.str "A"]) := by rw [e15]; exact at_upd _ f14_w11 hl2
      have f15_w12 : G15 w12 = some (.tup [.str "factor", .int 0]) := by rw [e15]; exact at_upd _ f14_w12 hl2
      have f15_l2 : G15 l2 = some (.lst [.ref w6, .ref w7, .ref w8, .ref w9, .ref w10, .ref w11, .ref w12]) := by rw [e15]; exact upd_same
      have s15 : Same G0 G15 := by rw [e15]; exact Same.new _ s14 hl2
      refine ⟨l1, l2, _, _, rfl, rfl, f15_l1, f15_l2, (by show 13 ≤ sizeLine; decide), fun c1 hc1 => ?_⟩
      obtain ⟨G16, e16⟩ : ∃ L, L = upd G15 c1 (.lst ([.ref w0, .ref w1, .ref w2, .ref w3, .ref w4, .ref w5] ++ [.ref w6, .ref w7, .ref w8, .ref w9, .ref w10, .ref w11, .ref w12])) := ⟨_, rfl⟩
      rw [← e16]
      have f16_w0 : G16 w0 = some (.tup [.str "reads", .int 4, .int 3]) := by rw [e16]; exact at_upd _ f15_w0 hc1
      have f16_w1 : G16 w1 = some (.tup [.str "conditions", .int 4, .int 3]) := by rw [e16]; exact at_upd _ f15_w1 hc1
      have f16_w2 : G16 w2 = some (.tup [.str "A"]) := by rw [e16]; exact at_upd _ f15_w2 hc1
      have f16_w3 : G16 w3 = some (.tup [.str "n", .int 13]) := by rw [e16]; exact at_upd _ f15_w3 hc1
      have f16_w4 : G16 w4 = some (.tup [.str "i", .int 13]) := by rw [e16]; exact at_upd _ f15_w4 hc1
      have f16_w5 : G16 w5 = some (.tup [.str "statements", .int 17, .int 16]) := by rw [e16]; exact at_upd _ f15_w5 hc1
      have f16_l1 : G16 l1 = some (.lst [.ref w0, .ref w1, .ref w2, .ref w3, .ref w4, .ref w5]) := by rw [e16]; exact at_upd _ f15_l1 hc1
      have f16_w6 : G16 w6 = some (.tup [.str "step", .int 17]) := by rw [e16]; exact at_upd _ f15_w6 hc1
      have f16_w7 : G16 w7 = some (.tup [.str "n", .int 4]) := by rw [e16]; exact at_upd _ f15_w7 hc1
      have f16_w8 : G16 w8 = some (.tup [.str "step", .int 2]) := by rw [e16]; exact at_upd _ f15_w8 hc1
      have f16_w9 : G16 w9 = some (.tup [.str "loops", .int 7, .int 6]) := by rw [e16]; exact at_upd _ f15_w9 hc1
      have f16_w10 : G16 w10 = some (.tup [.str "n", .int 4]) := by rw [e16]; exact at_upd _ f15_w10 hc1
      have f16_w11 : G16 w11 = some (.tup [.str "A"]) := by rw [e16]; exact at_upd _ f15_w11 hc1
      have f16_w12 : G16 w12 = some (.tup [.str "factor", .int 0]) := by rw [e16]; exact at_upd _ f15_w12 hc1
      have f16_l2 : G16 l2 = some (.lst [.ref w6, .ref w7, .ref w8, .ref w9, .ref w10, .ref w11, .ref w12]) := by rw [e16]; exact at_upd _ f15_l2 hc1
      have f16_c1 : G16 c1 = some (.lst ([.ref w0, .ref w1, .ref w2, .ref w3, .ref w4, .ref w5] ++ [.ref w6, .ref w7, .ref w8, .ref w9, .ref w10, .ref w11, .ref w12])) := by rw [e16]; exact upd_same
      have s16 : Same G0 G16 := by rw [e16]; exact Same.new _ s15 hc1
      have pc1 : G16 c1 = some (.lst [.ref w0, .ref w1, .ref w2, .ref w3, .ref w4, .ref w5, .ref w6, .ref w7, .ref w8, .ref w9, .ref w10, .ref w11, .ref w12]) := f16_c1
      refine normG (σ' := [some (.ref sc), some (.ref p), v2, some (.int d), v4, v5, v6, v7, some (.str x), some (.str y), some (.ref c1)]) rfl ?_
      refine ⟨_, rfl, sz2, fun w13 hw13 => ?_⟩
      obtain ⟨G17, e17⟩ : ∃ L, L = upd G16 w13 (.tup [.str "i", .int 13]) := ⟨_, rfl⟩
      rw [← e17]
      have f17_w0 : G17 w0 = some (.tup [.str "reads", .int 4, .int 3]) := by rw [e17]; exact at_upd _ f16_w0 hw13
      have f17_w1 : G17 w1 = some (.tup [.str "conditions", .int 4, .int 3]) := by rw [e17]; exact at_upd _ f16_w1 hw13
      have f17_w2 : G17 w2 = some (.tup [.str "A"]) := by rw [e17]; exact at_upd _ f16_w2 hw13
      have f17_w3 : G17 w3 = some (.tup [.str "n", .int 13]) := by rw [e17]; exact at_upd _ f16_w3 hw13
      have f17_w4 : G17 w4 = some (.tup [.str "i", .int 13]) := by rw [e17]; exact at_upd _ f16_w4 hw13
      have f17_w5 : G17 w5 = some (.tup [.str "statements", .int 17, .int 16]) := by rw [e17]; exact at_upd _ f16_w5 hw13
      have f17_l1 : G17 l1 = some (.lst [.ref w0, .ref w1, .ref w2, .ref w3, .ref w4, .ref w5]) := by rw [e17]; exact at_upd _ f16_l1 hw13
      have f17_w6 : G17 w6 = some (.tup [.str "step", .int 17]) := by rw [e17]; exact at_upd _ f16_w6 hw13
      have f17_w7 : G17 w7 = some (.tup [.str "n", .int 4]) := by rw [e17]; exact at_upd _ f16_w7 hw13
      have f17_w8 : G17 w8 = some (.tup [.str "step", .int 2]) := by rw [e17]; exact at_upd _ f16_w8 hw13
      have f17_w9 : G17 w9 = some (.tup [.str "loops", .int 7, .int 6]) := by rw [e17]; exact at_upd _ f16_w9 hw13
      have f17_w10 : G17 w10 = some (.tup [.str "n", .int 4]) := by rw [e17]; exact at_upd _ f16_w10 hw13
      have f17_w11 : G17 w11 = some (.tup [.str "A"]) := by rw [e17]; exact at_upd _ f16_w11 hw13
      have f17_w12 : G17 w12 = some (.tup [.str "factor", .int 0]) := by rw [e17]; exact at_upd _ f16_w12 hw13
      have f17_l2 : G17 l2 = some (.lst [.ref w6, .ref w7, .ref w8, .ref w9, .ref w10, .ref w11, .ref w12]) := by rw [e17]; exact at_upd _ f16_l2 hw13
      have f17_c1 : G17 c1 = some (.lst [.ref w0, .ref w1, .ref w2, .ref w3, .ref w4, .ref w5, .ref w6, .ref w7, .ref w8, .ref w9, .ref w10, .ref w11, .ref w12]) := by rw [e17]; exact at_upd _ pc1 hw13
      have f17_w13 : G17 w13 = some (.tup [.str "i", .int 13]) := by rw [e17]; exact upd_same
      have s17 : Same G0 G17 := by rw [e17]; exact Same.new _ s16 hw13
      refine ⟨sz2, fun w14 hw14 => ?_⟩
      obtain ⟨G18, e18⟩ : ∃ L, L = upd G17 w14 (.tup [.str "divisor", .int 4]) := ⟨_, rfl⟩
      rw [← e18]
      have f18_w0 : G18 w0 = some (.tup [.str "reads", .int 4, .int 3]) := by rw [e18]; exact at_upd _ f17_w0 hw14
      have f18_w1 : G18 w1 = some (.tup [.str "conditions", .int 4, .int 3]) := by rw [e18]; exact at_upd _ f17_w1 hw14
      have f18_w2 : G18 w2 = some (.tup [.str "A"]) := by rw [e18]; exact at_upd _ f17_w2 hw14
      have f18_w3 : G18 w3 = some (.tup [.str "n", .int 13]) := by rw [e18]; exact at_upd _ f17_w3 hw14
      have f18_w4 : G18 w4 = some (.tup [.str "i", .int 13]) := by rw [e18]; exact at_upd _ f17_w4 hw14
      have f18_w5 : G18 w5 = some (.tup [.str "statements", .int 17, .int 16]) := by rw [e18]; exact at_upd _ f17_w5 hw14
      have f18_l1 : G18 l1 = some (.lst [.ref w0, .ref w1, .ref w2, .ref w3, .ref w4, .ref w5]) := by rw [e18]; exact at_upd _ f17_l1 hw14
      have f18_w6 : G18 w6 = some (.tup [.str "step", .int 17]) := by rw [e18]; exact at_upd _ f17_w6 hw14
      have f18_w7 : G18 w7 = some (.tup [.str "n", .int 4]) := by rw [e18]; exact at_upd _ f17_w7 hw14
      have f18_w8 : G18 w8 = some (.tup [.str "step", .int 2]) := by rw [e18]; exact at_upd _ f17_w8 hw14
      have f18_w9 : G18 w9 = some (.tup [.str "loops", .int 7, .int 6]) := by rw [e18]; exact at_upd _ f17_w9 hw14
      have f18_w10 : G18 w10 = some (.tup [.str "n", .int 4]) := by rw [e18]; exact at_upd _ f17_w10 hw14
      have f18_w11 : G18 w11 = some (.tup [.str "A"]) := by rw [e18]; exact at_upd _ f17_w11 hw14
      have f18_w12 : G18 w12 = some (.tup [.str "factor", .int 0]) := by rw [e18]; exact at_upd _ f17_w12 hw14
      have f18_l2 : G18 l2 = some (.lst [.ref w6, .ref w7, .ref w8, .ref w9, .ref w10, .ref w11, .ref w12]) := by rw [e18]; exact at_upd _ f17_l2 hw14
      have f18_c1 : G18 c1 = some (.lst [.ref w0, .ref w1, .ref w2, .ref w3, .ref w4, .ref w5, .ref w6, .ref w7, .ref w8, .ref w9, .ref w10, .ref w11, .ref w12]) := by rw [e18]; exact at_upd _ f17_c1 hw14
      have f18_w13 : G18 w13 = some (.tup [.str "i", .int 13]) := by rw [e18]; exact at_upd _ f17_w13 hw14
      have f18_w14 : G18 w14 = some (.tup [.str "divisor", .int 4]) := by rw [e18]; exact upd_same
      have s18 : Same G0 G18 := by rw [e18]; exact Same.new _ s17 hw14
      refine ⟨sz2, fun l3 hl3 => ?_⟩
      obtain ⟨G19, e19⟩ : ∃ L, L = upd G18 l3 (.lst [.ref w13, .ref w14]) := ⟨_, rfl⟩
      rw [← e19]
      have f19_w0 : G19 w0 = some (.tup [.str "reads", .int 4, .int 3]) := by rw [e19]; exact at_upd _ f18_w0 hl3
      have f19_w1 : G19 w1 = some (.tup [.str "conditions", .int 4, .int 3]) := by rw [e19]; exact at_upd _ f18_w1 hl3
      have f19_w2 : G19 w2 = some (.tup [.str "A"]) := by rw [e19]; exact at_upd _ f18_w2 hl3
      have f19_w3 : G19 w3 = some (.tup [.str "n", .int 13]) := by rw [e19]; exact at_upd _ f18_w3 hl3
      have f19_w4 : G19 w4 = some (.tup [.str "i", .int 13]) := by rw [e19]; exact at_upd _ f18_w4 hl3
      have f19_w5 : G19 w5 = some (.tup [.str "statements", .int 17, .int 16]) := by rw [e19]; exact at_upd _ f18_w5 hl3
      have f19_l1 : G19 l1 = some (.lst [.ref w0, .ref w1, .ref w2, .ref w3, .ref w4, .ref w5]) := by rw [e19]; exact at_upd _ f18_l1 hl3
      have f19_w6 : G19 w6 = some (.tup [.str "step", .int 17]) := by rw [e19]; exact at_upd _ f18_w6 hl3
      have f19_w7 : G19 w7 = some (.tup [.str "n", .int 4]) := by rw [e19]; exact at_upd _ f18_w7 hl3
      have f19_w8 : G19 w8 = some (.tup [.str "step", .int 2]) := by rw [e19]; exact at_upd _ f18_w8 hl3
      have f19_w9 : G19 w9 = some (.tup [.str "loops", .int 7, .int 6]) := by rw [e19]; exact at_upd _ f18_w9 hl3
      have f19_w10 : G19 w10 = some (.tup [.str "n", .int 4]) := by rw [e19]; exact at_upd _ f18_w10 hl3
      have f19_w11 : G19 w11 = some (.tup [.str "A"]) := by rw [e19]; exact at_upd _ f18_w11 hl3
      have f19_w12 : G19 w12 = some (.tup [.str "factor", .int 0]) := by rw [e19]; exact at_upd _ f18_w12 hl3
      have f19_l2 : G19 l2 = some (.lst [.ref w6, .ref w7, .ref w8, .ref w9, .ref w10, .ref w11, .ref w12]) := by rw [e19]; exact at_upd _ f18_l2 hl3
      have f19_c1 : G19 c1 = some (.lst [.ref w0, .ref w1, .ref w2, .ref w3, .ref w4, .ref w5, .ref w6, .ref w7, .ref w8, .ref w9, .ref w10, .ref w11, .ref w12]) := by rw [e19]; exact at_upd _ f18_c1 hl3
      have f19_w13 : G19 w13 = some (.tup [.str "i", .int 13]) := by rw [e19]; exact at_upd _ f18_w13 hl3
      have f19_w14 : G19 w14 = some (.tup [.str "divisor", .int 4]) := by rw [e19]; exact at_upd _ f18_w14 hl3
      have f19_l3 : G19 l3 = some (.lst [.ref w13, .ref w14]) := by rw [e19]; exact upd_same
      have s19 : Same G0 G19 := by rw [e19]; exact Same.new _ s18 hl3
      refine ⟨c1, l3, _, _, rfl, rfl, f19_c1, f19_l3, (by show 15 ≤ sizeLine; decide), fun c2 hc2 => ?_⟩
      obtain ⟨G20, e20⟩ : ∃ L, L = upd G19 c2 (.lst ([.ref w0, .ref w1, .ref w2, .ref w3, .ref w4, .ref w5, .ref w6, .ref w7, .ref w8, .ref w9, .ref w10, .ref w11, .ref w12] ++ [.ref w13, .ref w14])) := ⟨_, rfl⟩
      rw [← e20]
      have f20_w0 : G20 w0 = some (.tup [.str "reads", .int 4, .int 3]) := by rw [e20]; exact at_upd _ f19_w0 hc2
      have f20_w1 : G20 w1 = some (.tup [.str "conditions", .int 4, .int 3]) := by rw [e20]; exact at_upd _ f19_w1 hc2
      have f20_w2 : G20 w2 = some (.tup [.str "A"]) := by rw [e20]; exact at_upd _ f19_w2 hc2
      have f20_w3 : G20 w3 = some (.tup [.str "n", .int 13]) := by rw [e20]; exact at_upd _ f19_w3 hc2
      have f20_w4 : G20 w4 = some (.tup [.str "i", .int 13]) := by rw [e20]; exact at_upd _ f19_w4 hc2
      have f20_w5 : G20 w5 = some (.tup [.str "statements", .int 17, .int 16]) := by rw [e20]; exact at_upd _ f19_w5 hc2
      have f20_l1 : G20 l1 = some (.lst [.ref w0, .ref w1, .ref w2, .ref w3, .ref w4, .ref w5]) := by rw [e20]; exact at_upd _ f19_l1 hc2
      have f20_w6 : G20 w6 = some (.tup [.str "step", .int 17]) := by rw [e20]; exact at_upd _ f19_w6 hc2
      have f20_w7 : G20 w7 = some (.tup [.str "n", .int 4]) := by rw [e20]; exact at_upd _ f19_w7 hc2
      have f20_w8 : G20 w8 = some (.tup [.str "step", .int 2]) := by rw [e20]; exact at_upd _ f19_w8 hc2
      have f20_w9 : G20 w9 = some (.tup [.str "loops", .int 7, .int 6]) := by rw [e20]; exact at_upd _ f19_w9 hc2
      have f20_w10 : G20 w10 = some (.tup [.str "n", .int 4]) := by rw [e20]; exact at_upd _ f19_w10 hc2
      have f20_w11 : G20 w11 = some (.tup [.str "A"]) := by rw [e20]; exact at_upd _ f19_w11 hc2
      have f20_w12 : G20 w12 = some (.tup [.str "factor", .int 0]) := by rw [e20]; exact at_upd _ f19_w12 hc2
      have f20_l2 : G20 l2 = some (.lst [.ref w6, .ref w7, .ref w8, .ref w9, .ref w10, .ref w11, .ref w12]) := by rw [e20]; exact at_upd _ f19_l2 hc2
      have f20_c1 : G20 c1 = some (.lst [.ref w0, .ref w1, .ref w2, .ref w3, .ref w4, .ref w5, .ref w6, .ref w7, .ref w8, .ref w9, .ref w10, .ref w11, .ref w12]) := by rw [e20]; exact at_upd _ f19_c1 hc2
      have f20_w13 : G20 w13 = some (.tup [.str "i", .int 13]) := by rw [e20]; exact at_upd _ f19_w13 hc2
      have f20_w14 : G20 w14 = some (.tup [.str "divisor", .int 4]) := by rw [e20]; exact at_upd _ f19_w14 hc2
      have f20_l3 : G20 l3 = some (.lst [.ref w13, .ref w14]) := by rw [e20]; exact at_upd _ f19_l3 hc2
      have f20_c2 : G20 c2 = some (.lst ([.ref w0, .ref w1, .ref w2, .ref w3, .ref w4, .ref w5, .ref w6, .ref w7, .ref w8, .ref w9, .ref w10, .ref w11, .ref w12] ++ [.ref w13, .ref w14])) := by rw [e20]; exact upd_same
      have s20 : Same G0 G20 := by rw [e20]; exact Same.new _ s19 hc2
      have pc2 : G20 c2 = some (.lst [.ref w0, .ref w1, .ref w2, .ref w3, .ref w4, .ref w5, .ref w6, .ref w7, .ref w8, .ref w9, .ref w10, .ref w11, .ref w12, .ref w13, .ref w14]) := f20_c2
      refine normG (σ' := [some (.ref sc), some (.ref p), v2, some (.int d), v4, v5, v6, v7, some (.str x), some (.str y), some (.ref c2)]) rfl ?_
      have due : ∀ j : Nat, j < 15 → ∃ tj, ([.ref w0, .ref w1, .ref w2, .ref w3, .ref w4, .ref w5, .ref w6, .ref w7, .ref w8, .ref w9, .ref w10, .ref w11, .ref w12, .ref w13, .ref w14] : List V)[j]? = some (.ref tj) ∧ G20 tj = some (.tup (dueV (dueE j))) := by
        intro j hj
        match j, hj with
        | 0, _ => exact ⟨w0, rfl, f20_w0⟩
        | 1, _ => exact ⟨w1, rfl, f20_w1⟩
        | 2, _ => exact ⟨w2, rfl, f20_w2⟩
        | 3, _ => exact ⟨w3, rfl, f20_w3⟩
        | 4, _ => exact ⟨w4, rfl, f20_w4⟩
        | 5, _ => exact ⟨w5, rfl, f20_w5⟩
        | 6, _ => exact ⟨w6, rfl, f20_w6⟩
        | 7, _ => exact ⟨w7, rfl, f20_w7⟩
        | 8, _ => exact ⟨w8, rfl, f20_w8⟩
        | 9, _ => exact ⟨w9, rfl, f20_w9⟩
        | 10, _ => exact ⟨w10, rfl, f20_w10⟩
        | 11, _ => exact ⟨w11, rfl, f20_w11⟩
        | 12, _ => exact ⟨w12, rfl, f20_w12⟩
        | 13, _ => exact ⟨w13, rfl, f20_w13⟩
        | 14, _ => exact ⟨w14, rfl, f20_w14⟩
      have hPz := hP11.same s20
      refine ⟨_, rfl, p, 15, 86, rfl, by decide, by decide, by decide, hPz, fun H12 d2 d20 d21 hP12 k12 => ?_⟩
      obtain ⟨j, rfl⟩ : ∃ j : Nat, d2 = (j : Int) := ⟨d2.toNat, by omega⟩
      have hj : j < 15 := by omega
      refine normG (σ' := [some (.ref sc), some (.ref p), v2, some (.int j), v4, v5, v6, v7, some (.str x), some (.str y), some (.ref c2)]) rfl ?_
      obtain ⟨tj, hx1, hx2⟩ := due j hj
      have hc := k12 _ _ (hPz.ne pc2 fun _ z => by cases z) pc2
      have ht := k12 _ _ (hPz.ne hx2 fun _ z => by cases z) hx2
      refine ⟨_, rfl, j, rfl, hj, fun t13 H13 s13 h13 => ?_⟩
      refine ⟨_, rfl, _, rfl, c2, _, _, _, rfl, rfl, SqL.of (s13 _ _ hc), atI_nat hx1, _, _, dp_due h13, dp_due (s13 _ _ ht), words15 j hj, words15 j hj, ?_⟩
      have eq1 : PyData.eqv (dueD j) (dueD j) = true := SeqAt.eqv_refl _ (SeqAt.canLay_of_shaped (words15 j hj))
      rw [eq1]
      refine ⟨_, rfl, if_yes rfl ?_⟩
      exact ⟨_, rfl, _, rfl, fun H14 s14 => k _⟩
end
end K23

set_option maxHeartbeats 0
namespace K23
open PySem PySem.Spec PyProof.Rows L2 Z
theorem run (w : World) : HandSHeadRun.RunEqI R (PySem.W.view R.prog [0, 58]) hk ob 60000 names w := by
  unfold HandSHeadRun.RunEqI
  kernel_rfl
end K23

set_option maxHeartbeats 0
namespace K23
open PySem PySem.Spec PyProof.Rows L2 Z
section
variable {P : Program} {w : World} {K : PySem.W.Frag} {mg : Str → Option Value} {base : Heap}
theorem scTooMany__init__ : FnScope ["self", "what", "many", "limit"] ["self", "what", "many", "limit"] (defScope iTooMany__init__) := ⟨rfl, rfl, rfl, by decide +kernel, rfl, by decide +kernel, by decide +kernel⟩
theorem mxTooMany {fd : FuncData} (T : EC K mg "TooMany" ["what", "many", "limit"]) (F : FnM K "TooMany" "__init__" "TooMany.__init__" iTooMany__init__ fd) : Mx P w K mg base "TooMany" ["self", "what", "many", "limit"] ["what", "many", "limit"] := by
  refine ⟨T, fd, ?_, F.bindsN fun _ _ _ _ _ _ us hl => match us, hl with | [_, _, _, _], _ => rfl⟩
  refine F.ok scTooMany__init__ (fun vs H Q E h => ?_) (fun cdv A outer s H vs Q E hr h => ⟨_, PSs.nox (pss_cons (ps_ost (pv 0) (pv 1)) (pss_cons (ps_ost (pv 0) (pv 2)) (pss_one (ps_ost (pv 0) (pv 3))))), rd_err3 T h⟩)
  obtain ⟨a, ws, rfl, e, _⟩ := h
  rw [List.length_cons, e]
  rfl
theorem scBadName__init__ : FnScope ["self", "name"] ["self", "name"] (defScope iBadName__init__) := ⟨rfl, rfl, rfl, by decide +kernel, rfl, by decide +kernel, by decide +kernel⟩
theorem mxBadName {fd : FuncData} (T : EC K mg "BadName" ["name"]) (F : FnM K "BadName" "__init__" "BadName.__init__" iBadName__init__ fd) : Mx P w K mg base "BadName" ["self", "name"] ["name"] := by
  refine ⟨T, fd, ?_, F.bindsN fun _ _ _ _ _ _ us hl => match us, hl with | [_, _], _ => rfl⟩
  refine F.ok scBadName__init__ (fun vs H Q E h => ?_) (fun cdv A outer s H vs Q E hr h => ⟨_, PSs.nox (pss_one (ps_ost (pv 0) (pv 1))), rd_err1 T h⟩)
  obtain ⟨a, ws, rfl, e, _⟩ := h
  rw [List.length_cons, e]
  rfl
end
theorem inx_of {K : PySem.W.Frag} {C : Addr} (h : insB K C = true) : Inx K C := by
  obtain ⟨h1, h⟩ := He.ba h
  obtain ⟨h2, h⟩ := He.ba h
  obtain ⟨h3, h4⟩ := He.ba h
  exact ⟨He.eqO_ok h1, He.eqO_ok h2, of_decide_eq_true h3, of_decide_eq_true h4⟩
theorem kw_of {K : PySem.W.Frag} {x : Str} (z : (match K.lookup (kwAt x K) with | some ⟨.type c, _, .seq its _, _⟩ => decide (c = "tuple") && decide (its.size = 0) | _ => false) = true) : ∀ H : Hp, SqT K H (kwAt x K) [] := by
  intro H
  cases e : K.lookup (kwAt x K) with
  | none =>
    rw [e] at z
    cases z
  | some ob =>
    rw [e] at z
    obtain ⟨oc, od, dt, osl⟩ := ob
    cases oc with
    | type c =>
      cases dt with
      | seq its n =>
        obtain ⟨z1, z2⟩ := He.ba z
        have z1 : c = "tuple" := of_decide_eq_true z1
        have z2 : its.size = 0 := of_decide_eq_true z2
        subst z1
        have z3 : its = #[] := Array.eq_empty_of_size_eq_zero z2
        subst z3
        exact .inr ⟨_, _, _, e, rfl, rfl, Nat.zero_le _, .nil⟩
      | _ => cases z
    | _ => cases z
theorem facts {P : Program} {w : World} {K : PySem.W.Frag} {h : Heap} {mg : Str → Option Value} {f : Addr} (X : K.In h) (G : h.Ns mainGlobals mg) (hfa : mg ("law" : Str) = some (.ref f)) (c : SaysX fa fn K) :
    ∃ fd : FuncData, (∀ (s : Shared) (v : Value), BindsTo s fd ⟨[v], []⟩ [("_law_script", v)]) ∧ ∀ base : Heap, K.In base → base.Ns mainGlobals mg → FnOk P w K mg base CX0 11 f fd ["_law_script"] (spLaw K) := by
  have gl : ∀ x ∈ glos, mg x = some (.ref (He.ga K x)) := fun x hx => He.glo_ok X G (List.all_eq_true.mp (c.fact 0) x hx)
  have fr : ∀ x ∈ frees, mg x = none := fun x hx => He.free_ok X G (List.all_eq_true.mp (c.fact 1) x hx)
  have ow : ∀ x ∈ owns, Cls K (He.ga K x) ∧ Mk K (He.ga K x) (He.ma K (He.ga K x) "__init__") ∧ Inx K (He.ga K x) := fun x hx => by
    obtain ⟨h1, z⟩ := He.ba (List.all_eq_true.mp (c.fact 2) x hx)
    obtain ⟨h2, h3⟩ := He.ba z
    exact ⟨He.cls_ok h1, He.mkr_ok h2, inx_of h3⟩
  have na : ∀ q ∈ atts, NoAttr K (He.ga K q.1) q.2 := fun q hq => He.noat_ok (List.all_eq_true.mp (c.fact 3) q hq)
  have me : ∀ q ∈ mets, Meth K (He.ga K q.1) q.2 (He.ma K (He.ga K q.1) q.2) := fun q hq => He.meth_ok (List.all_eq_true.mp (c.fact 4) q hq)
  have op : ∀ q ∈ oprs, OpI K (He.ga K q.1) q.2 := fun q hq => opiB_ok (List.all_eq_true.mp (c.fact 5) q hq)
  have kt := c.fact 7
  unfold kits at kt
  simp only [Bool.and_eq_true, decide_eq_true_eq] at kt
  obtain ⟨⟨⟨⟨⟨⟨⟨⟨⟨⟨⟨⟨_, kSi⟩, kSS⟩, kSP⟩, kPP⟩, kPS⟩, kPi⟩, kiP⟩, kiS⟩, kii0⟩, kib0⟩, kBL⟩, kBV⟩ := kt
  have gcd : mg "gcd" = some (.builtin "math.gcd") := PySem.W.mg_of X G (He.eqO_ok (c.fact 8))
  have xm : ∀ q ∈ ([("BadNumber", "BadNumber", true), ("BadName", "BadName", true), ("TooMany", "TooMany", true), ("BadName", "TooMany", false), ("BadNumber", "TooMany", false), ("BadNumber", "BadName", false)] : List (Str × Str × Bool)), PySem.W.exmOne K (.ref (He.ga K q.1)) (.ref (He.ga K q.2.1)) = some q.2.2 := fun q hq => of_decide_eq_true (List.all_eq_true.mp (c.fact 9) q hq)
  have EE : ∀ q ∈ excs, EC K mg q.1 q.2 := fun q hq => by
    obtain ⟨h1, z⟩ := He.ba (List.all_eq_true.mp (c.fact 6) q hq)
    obtain ⟨h2, z⟩ := He.ba z
    obtain ⟨h3, z⟩ := He.ba z
    obtain ⟨h4, h5⟩ := He.ba z
    exact { gC := gl q.1 ((show ∀ q ∈ excs, q.1 ∈ glos by decide +kernel) q hq), ox := oex_of h2 (exkB_ok h1), ex := exkB_ok h1, iC := He.eqO_ok h3, tI := of_decide_eq_true h4, na := fun x hx => He.eqO_ok (List.all_eq_true.mp h5 x hx) }
  have EB : EC K mg "BadNumber" ["what", "number"] := EE (("BadNumber", ["what", "number"]) : Str × List Str) (by decide +kernel)
  have ET : EC K mg "TooMany" ["what", "many", "limit"] := EE (("TooMany", ["what", "many", "limit"]) : Str × List Str) (by decide +kernel)
  have EN : EC K mg "BadName" ["name"] := EE (("BadName", ["name"]) : Str × List Str) (by decide +kernel)
  have con : ∀ q ∈ ([("TOP_PART", 12), ("TOP_ONE", 999), ("TOP_RANGE_PART", 3), ("TOP_DIVISOR", 3), ("TOP_STEP", 16), ("MOST_LOOPS", 6), ("MOST_STATEMENTS", 16), ("MOST_READS", 3), ("MOST_CONDITIONS", 3)] : List (Str × Int)), ∃ t, mg q.1 = some (.int q.2 t) := fun q hq => by
    have z := List.all_eq_true.mp (c.fact 10) q hq
    cases e : PySem.W.nsIn K mainGlobals q.1 with
    | none =>
      rw [e] at z
      cases z
    | some o =>
      rw [e] at z
      cases o with
      | none => cases z
      | some v =>
        cases v with
        | int i t =>
          have e2 : i = q.2 := of_decide_eq_true z
          subst e2
          exact ⟨t, PySem.W.mg_of X G e⟩
        | _ => cases z
  obtain ⟨kw1, kw2⟩ := He.ba (c.fact 11)
  have gLe : ∃ t, mg "LETTERS" = some (.str lets t) := by
    have z := c.fact 12
    cases e : PySem.W.nsIn K mainGlobals "LETTERS" with
    | none =>
      rw [e] at z
      cases z
    | some o =>
      rw [e] at z
      cases o with
      | none => cases z
      | some v =>
        cases v with
        | str x t =>
          have e2 : x = lets := of_decide_eq_true z
          subst e2
          exact ⟨t, PySem.W.mg_of X G e⟩
        | _ => cases z
  have kwz : ∀ x ∈ (["reads", "conditions"] : List Str), ∀ H : Hp, SqT K H (kwAt x K) [] := fun x hx => kw_of (List.all_eq_true.mp (c.fact 13) x hx)
  have T : LwTx K mg := {
    gS := gl "Straight" (by decide +kernel), clS := (ow "Straight" (by decide +kernel)).1, mkS := (ow "Straight" (by decide +kernel)).2.1, ixS := (ow "Straight" (by decide +kernel)).2.2
    nI := na ("Straight", "i") (by decide +kernel), nN := na ("Straight", "n") (by decide +kernel), nO := na ("Straight", "one") (by decide +kernel)
    kSi := kSi, kSS := kSS, kiS := kiS
    isi := fr _ (by decide +kernel), int := fr _ (by decide +kernel), bool := fr _ (by decide +kernel)
    gA := gl "AtLeast" (by decide +kernel), clA := (ow "AtLeast" (by decide +kernel)).1, mkA := (ow "AtLeast" (by decide +kernel)).2.1
    nAS := na ("AtLeast", "straight") (by decide +kernel)
    gcd := gcd
    plc := { gS := gl "Straight" (by decide +kernel), clS := (ow "Straight" (by decide +kernel)).1, mkS := (ow "Straight" (by decide +kernel)).2.1, ixS := (ow "Straight" (by decide +kernel)).2.2
             nI := na ("Straight", "i") (by decide +kernel), nN := na ("Straight", "n") (by decide +kernel), nO := na ("Straight", "one") (by decide +kernel)
             kSi := kSi, kSS := kSS, kiS := kiS
             isi := fr _ (by decide +kernel), int := fr _ (by decide +kernel), bool := fr _ (by decide +kernel)
             gP := gl "Place" (by decide +kernel), clP := (ow "Place" (by decide +kernel)).1, mkP := (ow "Place" (by decide +kernel)).2.1, ixP := (ow "Place" (by decide +kernel)).2.2
             nS := na ("Place", "straight") (by decide +kernel), nD := na ("Place", "divisor") (by decide +kernel)
             gcd := gcd, kPP := kPP, kPS := kPS, kSP := kSP, kiP := kiP }
    clR := (ow "Read" (by decide +kernel)).1, nRA := na ("Read", "array") (by decide +kernel), nRP := na ("Read", "place") (by decide +kernel), nRF := na ("Read", "factor") (by decide +kernel)
    clM := (ow "Statement" (by decide +kernel)).1, nMA := na ("Statement", "array") (by decide +kernel), nMC := na ("Statement", "cell") (by decide +kernel), nMK := na ("Statement", "constant") (by decide +kernel), nMR := na ("Statement", "reads") (by decide +kernel), nMG := na ("Statement", "conditions") (by decide +kernel)
    clL := (ow "Loop" (by decide +kernel)).1, nLo := na ("Loop", "low") (by decide +kernel), nHi := na ("Loop", "high") (by decide +kernel), nSt := na ("Loop", "statements") (by decide +kernel), nSp := na ("Loop", "step") (by decide +kernel), nDn := na ("Loop", "down") (by decide +kernel)
    clP := (ow "Program" (by decide +kernel)).1, nPL := na ("Program", "loops") (by decide +kernel), nPA := na ("Program", "arrays") (by decide +kernel), nPK := na ("Program", "known") (by decide +kernel)
    con := con
    gKW := He.glo_ok X G kw1
    tKW := fun H => (He.tupB_ok kw2 H)
    gLe := gLe
    len := fr _ (by decide +kernel), tuple := fr _ (by decide +kernel), all := fr _ (by decide +kernel), str := fr _ (by decide +kernel), set := fr _ (by decide +kernel), sorted := fr _ (by decide +kernel)
    list := fr _ (by decide +kernel), range := fr _ (by decide +kernel), max := fr _ (by decide +kernel), min := fr _ (by decide +kernel) }
  have R : ErTx K mg := {
    EB := EB, ET := ET, EN := EN
    gLE := gl "LoopError" (by decide +kernel), VE := fr _ (by decide +kernel), kBL := kBL, kBV := kBV
    xBB := xm ("BadNumber", "BadNumber", true) (by decide +kernel), xNN := xm ("BadName", "BadName", true) (by decide +kernel), xTT := xm ("TooMany", "TooMany", true) (by decide +kernel)
    xNT := xm ("BadName", "TooMany", false) (by decide +kernel), xBT := xm ("BadNumber", "TooMany", false) (by decide +kernel), xBN := xm ("BadNumber", "BadName", false) (by decide +kernel) }
  obtain ⟨fd_is_integer, F_is_integer⟩ := c.def_ 1 (d := d_is_integer) rfl
  obtain ⟨fd_is_straight, F_is_straight⟩ := c.def_ 3 (d := d_is_straight) rfl
  obtain ⟨fd_straight_like, F_straight_like⟩ := c.def_ 4 (d := d_straight_like) rfl
  obtain ⟨fd_place_like, F_place_like⟩ := c.def_ 5 (d := d_place_like) rfl
  obtain ⟨fd_added, F_added⟩ := c.def_ 7 (d := d_added) rfl
  obtain ⟨fd_arrays_in, F_arrays_in⟩ := c.def_ 8 (d := d_arrays_in) rfl
  obtain ⟨fd_is_array_name, F_is_array_name⟩ := c.def_ 2 (d := d_is_array_name) rfl
  obtain ⟨fd_check_number, F_check_number⟩ := c.def_ 11 (d := d_check_number) rfl
  obtain ⟨fd_check_many, F_check_many⟩ := c.def_ 9 (d := d_check_many) rfl
  obtain ⟨fd_check_name, F_check_name⟩ := c.def_ 10 (d := d_check_name) rfl
  obtain ⟨fd_check_sum, F_check_sum⟩ := c.def_ 12 (d := d_check_sum) rfl
  obtain ⟨fd_check_place, F_check_place⟩ := c.def_ 13 (d := d_check_place) rfl
  obtain ⟨fd_check_range_place, F_check_range_place⟩ := c.def_ 14 (d := d_check_range_place) rfl
  obtain ⟨fd__law_pen, F__law_pen⟩ := c.def_ 15 (d := d_law_pen) rfl
  obtain ⟨fd__law_draw, F__law_draw⟩ := c.def_ 16 (d := d_law_draw) rfl
  obtain ⟨fd__law_big, F__law_big⟩ := c.def_ 17 (d := d_law_big) rfl
  obtain ⟨fd__law_between, F__law_between⟩ := c.def_ 18 (d := d_law_between) rfl
  obtain ⟨fd__law_far, F__law_far⟩ := c.def_ 19 (d := d_law_far) rfl
  obtain ⟨fd__law_name, F__law_name⟩ := c.def_ 20 (d := d_law_name) rfl
  obtain ⟨fd__law_bounds, F__law_bounds⟩ := c.def_ 23 (d := d_law_bounds) rfl
  obtain ⟨fd__law_kept, F__law_kept⟩ := c.def_ 21 (d := d_law_kept) rfl
  obtain ⟨fd__law_kept_by_loop, F__law_kept_by_loop⟩ := c.def_ 22 (d := d_law_kept_by_loop) rfl
  obtain ⟨fd__law_number_right, F__law_number_right⟩ := c.def_ 24 (d := d_law_number_right) rfl
  obtain ⟨fd__law_name_told, F__law_name_told⟩ := c.def_ 25 (d := d_law_name_told) rfl
  obtain ⟨fd__law_read_made, F__law_read_made⟩ := c.def_ 26 (d := d_law_read_made) rfl
  obtain ⟨fd__law_first_told, F__law_first_told⟩ := c.def_ 27 (d := d_law_first_told) rfl
  obtain ⟨fd__law_copies, F__law_copies⟩ := c.def_ 28 (d := d_law_copies) rfl
  obtain ⟨fd_law, F_law⟩ := c.def_ 29 (d := d_law) rfl
  obtain ⟨fdBadNumber__init__, FBadNumber__init__⟩ := c.def_ 31 (d := dBadNumber__init__) rfl
  obtain ⟨fdTooMany__init__, FTooMany__init__⟩ := c.def_ 32 (d := dTooMany__init__) rfl
  obtain ⟨fdBadName__init__, FBadName__init__⟩ := c.def_ 30 (d := dBadName__init__) rfl
  obtain ⟨fdStraight__init__, FStraight__init__⟩ := c.def_ 33 (d := dStraight__init__) rfl
  obtain ⟨fdStraight__add__, FStraight__add__⟩ := c.def_ 34 (d := dStraight__add__) rfl
  obtain ⟨fdStraight__mul__, FStraight__mul__⟩ := c.def_ 35 (d := dStraight__mul__) rfl
  obtain ⟨fdStraight__rmul__, FStraight__rmul__⟩ := c.def_ 36 (d := dStraight__rmul__) rfl
  obtain ⟨fdStraight__floordiv__, FStraight__floordiv__⟩ := c.def_ 37 (d := dStraight__floordiv__) rfl
  obtain ⟨fdPlace__init__, FPlace__init__⟩ := c.def_ 38 (d := dPlace__init__) rfl
  obtain ⟨fdAtLeast__init__, FAtLeast__init__⟩ := c.def_ 39 (d := dAtLeast__init__) rfl
  obtain ⟨fdRead__init__, FRead__init__⟩ := c.def_ 40 (d := dRead__init__) rfl
  obtain ⟨fdStatement__init__, FStatement__init__⟩ := c.def_ 41 (d := dStatement__init__) rfl
  obtain ⟨fdLoop__init__, FLoop__init__⟩ := c.def_ 42 (d := dLoop__init__) rfl
  obtain ⟨fdProgram__init__, FProgram__init__⟩ := c.def_ 43 (d := dProgram__init__) rfl
  have e := hfa.symm.trans (gl "law" (by decide +kernel))
  cases e
  refine ⟨fd_law, fun s v => FunD.bindsA (ps := ["_law_script"]) F_law (fun _ _ _ _ _ _ us hl => match us, hl with | [_], _ => rfl) s [v] rfl, fun base _ _ => ?_⟩
  have D_is_integer : Dn P w K mg base 1 "is_integer" ["value"] (spIsInt K) := ⟨_, _, ok_isInt F_is_integer T.toStTx, gl _ (by decide +kernel), F_is_integer.kp, FunD.bindsN (ps := ["value"]) F_is_integer fun _ _ _ _ _ _ us hl => match us, hl with | [_], _ => rfl⟩
  have D_is_straight : Dn P w K mg base 2 "is_straight" ["value"] (spIsStr K) := ⟨_, _, ok_isStr F_is_straight T.toStTx D_is_integer, gl _ (by decide +kernel), F_is_straight.kp, FunD.bindsN (ps := ["value"]) F_is_straight fun _ _ _ _ _ _ us hl => match us, hl with | [_], _ => rfl⟩
  have M : MkS P w K mg base := mk_S T.toStTx FStraight__init__
  have D_straight_like : Dn P w K mg base 3 "straight_like" ["value"] (spLike K) := ⟨_, _, ok_like F_straight_like T.toStTx M, gl _ (by decide +kernel), F_straight_like.kp, FunD.bindsN (ps := ["value"]) F_straight_like fun _ _ _ _ _ _ us hl => match us, hl with | [_], _ => rfl⟩
  have D_added : Dn P w K mg base 3 "added" ["one", "other", "sign"] (spAdded K) := ⟨_, _, ok_added F_added T.toStTx M, gl _ (by decide +kernel), F_added.kp, FunD.bindsN (ps := ["one", "other", "sign"]) F_added fun _ _ _ _ _ _ us hl => match us, hl with | [_, _, _], _ => rfl⟩
  have MB : Mx P w K mg base "BadNumber" ["self", "what", "number"] ["what", "number"] := mxBadNumber EB FBadNumber__init__
  have MT : Mx P w K mg base "TooMany" ["self", "what", "many", "limit"] ["what", "many", "limit"] := mxTooMany ET FTooMany__init__
  have MN : Mx P w K mg base "BadName" ["self", "name"] ["name"] := mxBadName EN FBadName__init__
  have MP : MkP P w K mg base := mk_P T.plc M MB D_straight_like FPlace__init__
  have MA : MkA P w K mg base := mk_A T.toAtTx M D_straight_like FAtLeast__init__
  have O : OpX P w K mg base := {
    sa := om_SAdd (P := P) (w := w) (base := base) FStraight__add__ T.toStTx (me ("Straight", "__add__") (by decide +kernel)) D_is_straight D_straight_like D_added
    sm := om_SMul (P := P) (w := w) (base := base) FStraight__mul__ T.toStTx M (me ("Straight", "__mul__") (by decide +kernel)) D_is_integer
    sr := om_SRmul (P := P) (w := w) (base := base) FStraight__rmul__ T.toStTx M (me ("Straight", "__rmul__") (by decide +kernel)) D_is_integer
    fd := om_Fdiv (P := P) (w := w) (base := base) FStraight__floordiv__ T.plc MP (me ("Straight", "__floordiv__") (by decide +kernel)) D_is_integer
    ia := op ("Straight", "add") (by decide +kernel), im := op ("Straight", "mul") (by decide +kernel), if_ := op ("Straight", "floordiv") (by decide +kernel) }
  have D_place_like : Dn P w K mg base 6 "place_like" ["value"] (spPLike K) := ⟨_, _, ok_pLike F_place_like T.toPrTx MP, gl _ (by decide +kernel), F_place_like.kp, FunD.bindsN (ps := ["value"]) F_place_like fun _ _ _ _ _ _ us hl => match us, hl with | [_], _ => rfl⟩
  have D_is_array_name : Dn P w K mg base 1 "is_array_name" ["value"] spIsName := ⟨_, _, ok_isName F_is_array_name T.toPrTx, gl _ (by decide +kernel), F_is_array_name.kp, FunD.bindsN (ps := ["value"]) F_is_array_name fun _ _ _ _ _ _ us hl => match us, hl with | [_], _ => rfl⟩
  have D_arrays_in : Dn P w K mg base 1 "arrays_in" ["loops"] (spArr K) := ⟨_, _, ok_arr F_arrays_in T.toPrTx, gl _ (by decide +kernel), F_arrays_in.kp, FunD.bindsN (ps := ["loops"]) F_arrays_in fun _ _ _ _ _ _ us hl => match us, hl with | [_], _ => rfl⟩
  have D_check_number : Dx P w K mg base 3 "check_number" ["what", "number", "low", "high"] (spCkN K) := ⟨_, _, ok_ckN F_check_number MB, gl _ (by decide +kernel), F_check_number.kp, FunD.bindsN (ps := ["what", "number", "low", "high"]) F_check_number fun _ _ _ _ _ _ us hl => match us, hl with | [_, _, _, _], _ => rfl⟩
  have D_check_many : Dx P w K mg base 3 "check_many" ["what", "things", "most"] (spCkM K) := ⟨_, _, ok_ckM F_check_many T.toPrTx MT, gl _ (by decide +kernel), F_check_many.kp, FunD.bindsN (ps := ["what", "things", "most"]) F_check_many fun _ _ _ _ _ _ us hl => match us, hl with | [_, _, _], _ => rfl⟩
  have D_check_name : Dx P w K mg base 3 "check_name" ["array"] (spCkA K) := ⟨_, _, ok_ckA F_check_name MN D_is_array_name, gl _ (by decide +kernel), F_check_name.kp, FunD.bindsN (ps := ["array"]) F_check_name fun _ _ _ _ _ _ us hl => match us, hl with | [_], _ => rfl⟩
  have D_check_sum : Dx P w K mg base 4 "check_sum" ["straight"] (spCkS K) := ⟨_, _, ok_ckS F_check_sum T.toPrTx D_check_number, gl _ (by decide +kernel), F_check_sum.kp, FunD.bindsN (ps := ["straight"]) F_check_sum fun _ _ _ _ _ _ us hl => match us, hl with | [_], _ => rfl⟩
  have D_check_place : Dx P w K mg base 5 "check_place" ["place"] (spCkP K) := ⟨_, _, ok_ckP F_check_place T.toPrTx D_check_number D_check_sum, gl _ (by decide +kernel), F_check_place.kp, FunD.bindsN (ps := ["place"]) F_check_place fun _ _ _ _ _ _ us hl => match us, hl with | [_], _ => rfl⟩
  have D_check_range_place : Dx P w K mg base 4 "check_range_place" ["place"] (spCkR K) := ⟨_, _, ok_ckR F_check_range_place T.toPrTx D_check_number, gl _ (by decide +kernel), F_check_range_place.kp, FunD.bindsN (ps := ["place"]) F_check_range_place fun _ _ _ _ _ _ us hl => match us, hl with | [_], _ => rfl⟩
  have MRd : MkRd P w K mg base := mk_Rd FRead__init__ { mK := (ow "Read" (by decide +kernel)).2.1, gC := gl "Read" (by decide +kernel), fn := ok_RdI FRead__init__ T.toPrTx MB D_check_name D_check_number D_place_like D_check_place }
  have MSt : MkSt P w K mg base := mk_St FStatement__init__ { mK := (ow "Statement" (by decide +kernel)).2.1, gC := gl "Statement" (by decide +kernel), fn := ok_StI FStatement__init__ T.toPrTx D_check_many D_check_name D_check_number D_check_sum D_straight_like } fun H => ⟨kwz _ (by decide +kernel) H, kwz _ (by decide +kernel) H⟩
  have MLp : MkLp P w K mg base := mk_Lp FLoop__init__ { mK := (ow "Loop" (by decide +kernel)).2.1, gC := gl "Loop" (by decide +kernel), fn := ok_LpI FLoop__init__ T.toPrTx MB D_check_many D_check_number D_place_like D_check_range_place }
  have MPr : MkPr P w K mg base := ⟨_, _, { mK := (ow "Program" (by decide +kernel)).2.1, gC := gl "Program" (by decide +kernel), fn := ok_PrI FProgram__init__ T.toPrTx D_check_many D_arrays_in }, FProgram__init__.bindsN fun _ _ _ _ _ _ us hl => match us, hl with | [_, _], _ => rfl⟩
  have D__law_pen : Dn P w K mg base 1 "_law_pen" ["_law_script"] (spPen K) := ⟨_, _, ok_pen F__law_pen T.bt, gl _ (by decide +kernel), F__law_pen.kp, FunD.bindsN (ps := ["_law_script"]) F__law_pen fun _ _ _ _ _ _ us hl => match us, hl with | [_], _ => rfl⟩
  have D__law_draw : Dn P w K mg base 1 "_law_draw" ["_law_pen_here", "_law_many"] spDrawC := ⟨_, _, ok_drawC F__law_draw T.bt, gl _ (by decide +kernel), F__law_draw.kp, FunD.bindsN (ps := ["_law_pen_here", "_law_many"]) F__law_draw fun _ _ _ _ _ _ us hl => match us, hl with | [_, _], _ => rfl⟩
  have D_draw : Dn P w K mg base 1 "_law_draw" ["_law_pen_here", "_law_many"] spDraw := draw_of D__law_draw
  have D__law_big : Dn P w K mg base 2 "_law_big" ["_law_pen_here", "_law_many"] spBigG := ⟨_, _, ok_bigG F__law_big T D_draw, gl _ (by decide +kernel), F__law_big.kp, FunD.bindsN (ps := ["_law_pen_here", "_law_many"]) F__law_big fun _ _ _ _ _ _ us hl => match us, hl with | [_, _], _ => rfl⟩
  have D__law_between : Dn P w K mg base 2 "_law_between" ["_law_pen_here", "_law_least", "_law_most"] spBetween := ⟨_, _, ok_between F__law_between T D_draw, gl _ (by decide +kernel), F__law_between.kp, FunD.bindsN (ps := ["_law_pen_here", "_law_least", "_law_most"]) F__law_between fun _ _ _ _ _ _ us hl => match us, hl with | [_, _, _], _ => rfl⟩
  have D__law_far : Dn P w K mg base 3 "_law_far" ["_law_pen_here"] spFar := ⟨_, _, ok_far F__law_far T D_draw D__law_big, gl _ (by decide +kernel), F__law_far.kp, FunD.bindsN (ps := ["_law_pen_here"]) F__law_far fun _ _ _ _ _ _ us hl => match us, hl with | [_], _ => rfl⟩
  have D__law_name : Dn P w K mg base 2 "_law_name" ["_law_pen_here"] spName := ⟨_, _, ok_name F__law_name T D__law_draw, gl _ (by decide +kernel), F__law_name.kp, FunD.bindsN (ps := ["_law_pen_here"]) F__law_name fun _ _ _ _ _ _ us hl => match us, hl with | [_], _ => rfl⟩
  have D__law_bounds : Dn P w K mg base 1 "_law_bounds" [] spBounds := ⟨_, _, ok_bounds F__law_bounds, gl _ (by decide +kernel), F__law_bounds.kp, FunD.bindsN (ps := []) F__law_bounds fun _ _ _ _ _ _ us hl => match us, hl with | [], _ => rfl⟩
  have D__law_kept : Dx P w K mg base 9 "_law_kept" ["_law_way", "_law_number"] (spKept K) := ⟨_, _, ok_kept F__law_kept T M MA MRd MSt O, gl _ (by decide +kernel), F__law_kept.kp, FunD.bindsN (ps := ["_law_way", "_law_number"]) F__law_kept fun _ _ _ _ _ _ us hl => match us, hl with | [_, _], _ => rfl⟩
  have D__law_kept_by_loop : Dx P w K mg base 9 "_law_kept_by_loop" ["_law_way", "_law_number"] (spKeptL K) := ⟨_, _, ok_keptL F__law_kept_by_loop T M MSt MLp O, gl _ (by decide +kernel), F__law_kept_by_loop.kp, FunD.bindsN (ps := ["_law_way", "_law_number"]) F__law_kept_by_loop fun _ _ _ _ _ _ us hl => match us, hl with | [_, _], _ => rfl⟩
  have D__law_number_right : Dn P w K mg base 10 "_law_number_right" ["_law_way", "_law_number"] (spNumR K) := ⟨_, _, ok_numR F__law_number_right T R D__law_bounds D__law_kept D__law_kept_by_loop, gl _ (by decide +kernel), F__law_number_right.kp, FunD.bindsN (ps := ["_law_way", "_law_number"]) F__law_number_right fun _ _ _ _ _ _ us hl => match us, hl with | [_, _], _ => rfl⟩
  have D__law_name_told : Dn P w K mg base 9 "_law_name_told" ["_law_name_here", "_law_way"] spNameT := ⟨_, _, ok_nameT F__law_name_told T R MRd MSt, gl _ (by decide +kernel), F__law_name_told.kp, FunD.bindsN (ps := ["_law_name_here", "_law_way"]) F__law_name_told fun _ _ _ _ _ _ us hl => match us, hl with | [_, _], _ => rfl⟩
  have D__law_read_made : Dx P w K mg base 9 "_law_read_made" ["_law_way", "_law_i", "_law_n"] (spReadMade K) := ⟨_, _, ok_readMade F__law_read_made T MRd MLp O, gl _ (by decide +kernel), F__law_read_made.kp, FunD.bindsN (ps := ["_law_way", "_law_i", "_law_n"]) F__law_read_made fun _ _ _ _ _ _ us hl => match us, hl with | [_, _, _], _ => rfl⟩
  have D__law_first_told : Dn P w K mg base 10 "_law_first_told" ["_law_way"] spFirst := ⟨_, _, ok_first F__law_first_told T R M MA MRd MSt MLp MPr O D__law_read_made, gl _ (by decide +kernel), F__law_first_told.kp, FunD.bindsN (ps := ["_law_way"]) F__law_first_told fun _ _ _ _ _ _ us hl => match us, hl with | [_], _ => rfl⟩
  have D__law_copies : Dn P w K mg base 10 "_law_copies" ["_law_pen_here"] spCopies := ⟨_, _, ok_copies F__law_copies T M MA MRd MSt MLp MPr, gl _ (by decide +kernel), F__law_copies.kp, FunD.bindsN (ps := ["_law_pen_here"]) F__law_copies fun _ _ _ _ _ _ us hl => match us, hl with | [_], _ => rfl⟩
  exact ok_law F_law T D__law_pen D_draw D__law_bounds D__law_between D__law_far D__law_name D__law_number_right D__law_name_told D__law_first_told D__law_copies
end K23
open PySem PySem.W PySem.Calls PyProof.Rows
theorem PySem.Challenge.cw_loopsize_k23_parts_refused_at_their_boun_holds : PySem.Challenge.rw_loopsize_k23_parts_refused_at_their_boun.Holds := by
  w_on; o_law
  refine HandSHeadRun.head_imp (r := OpenLaw.row PySem.Challenge.rw_loopsize_k23_parts_refused_at_their_boun) (q := view (OpenLaw.row PySem.Challenge.rw_loopsize_k23_parts_refused_at_their_boun).prog [0, 58]) (H := K23.hk) (ob := K23.ob) (M := 60000) (loose := K23.names) (d := HandSHeadRun.topDef (OpenLaw.row PySem.Challenge.rw_loopsize_k23_parts_refused_at_their_boun).prog 58) (kwd := []) K23.ob_eq
    K23.run (by kernel_rfl) (by kernel_rfl) (by kernel_rfl) (by rfl) (by first | assumption | decide +kernel) (by decide +kernel) ⟨rfl, rfl, rfl, rfl, rfl, by decide +kernel⟩ ?hw ?hc
  case hw => w_witness2
  case hc =>
    refine L2.walk_ofE (l := PySem.Challenge.rw_loopsize_k23_parts_refused_at_their_boun) (n := 63) (k := 11) (x := "_law_script") (CX := L2.CX0) rfl (by decide) (by kernel_rfl) ⟨rfl, by decide, by decide⟩ ?F (fun _ _ _ _ z => z)
    intro w mg fa h Y G hmg0
    obtain ⟨K, KX, c⟩ := Y
    have hmg : mg ("law" : PySem.Str) = some (.ref fa) := by
      have e : (HandSHeadRun.topDef (OpenLaw.row PySem.Challenge.rw_loopsize_k23_parts_refused_at_their_boun).prog 58).name = ("law" : PySem.Str) := by kernel_rfl
      rw [← e]
      exact hmg0
    obtain ⟨fd, hb, hF⟩ := K23.facts (P := (PySem.Challenge.rw_loopsize_k23_parts_refused_at_their_boun).prog) (w := w) KX G hmg c
    exact ⟨K, fd, K23.spLaw K, KX, hb, fun H a ns hl _ hS => ⟨a, ns, rfl, hS, hl, fun _ => rfl⟩, hF⟩

